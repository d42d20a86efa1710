import PyProof.Rows.All
import PyProof.StrLawsRepr
import Wide.All
import OpenK.AllK
import Wide.FinOn
import HandS.ForMost
import HandS.ForExc
import HandS.Wide
import HandS.WideBits
import HandS.IsInst
import HandS.Star
import HandS.Property
import HandS.Flow
import HandS.Walk
import HandS.Comp
import HandS.NoneIn
import HandS.Zip
import HandS.SortInts
import HandS.Text
import HandS.ClsMeth
import KE.KSuper
import PyProof.Rows.NestShow
import PyProof.FitsInt
import KE.KOpsOwn
import PyProof.InstNe
import HandS.Style
import HandS.Conv
import HandS.SetFor
import HandS.Strs
import HandS.RaiseMore
import HandS.ExcOwn
import HandS.ExcIs
import HandS.ExcCtx
import HandS.HotCalls
import HandS.More
import HandS.SetBool
import HandS.DictComp
import HandS.Small
import HandS.Iter
import HandS.Dict
import PySem.Challenge.RW_onwardlines_k15_timetables_judged
set_option Elab.async false
set_option linter.all false
set_option maxRecDepth 100000
set_option maxHeartbeats 4000000
/-! ## Base -/
/-! A layer of one's own over the hand layer: what is known of the heap is a list of objects; one goal at a time. -/
namespace Xi
open PySem L2

/-! ### the semantic readings -/
def we (X : Cx) (e : Expr) : TE := fun σ H Q => ∀ (pins : List (Addr × Obj)) (s : Shared), Inv X pins σ H s → wpAny (model X.prog X.w) X.A (eval e X.env) (EP X pins σ Q) X.xe s
def wt (X : Cx) (e : Expr) : TT := fun σ H Q => ∀ (pins : List (Addr × Obj)) (s : Shared), Inv X pins σ H s → wpAny (model X.prog X.w) X.A (isTrue e X.env (eval e X.env)) (TP X pins σ Q) X.xe s
def ww (X : Cx) (e : Expr) : TT := fun σ H Q => ∀ (whole : Sem Value) (pins : List (Addr × Obj)) (s : Shared), Inv X pins σ H s → wpAny (model X.prog X.w) X.A (isTrue e X.env whole) (TP X pins σ Q) X.xe s
def wa (X : Cx) (es : List Expr) : TA := fun σ H Q => ∀ (pos : Pos) (pins : List (Addr × Obj)) (s : Shared), Inv X pins σ H s → wpAny (model X.prog X.w) X.A (spliced (backTo pos (starEach es X.env))) (AP X pins σ Q) X.xe s
def wb (X : Cx) (ss : List Stmt) : TS := fun D σ H => ∀ (pins : List (Addr × Obj)) (s : Shared), Inv X pins σ H s → wpAny (model X.prog X.w) X.A (execs ss X.env) (SP X pins D) X.xe s
def wk (X : Cx) (ks : List Keyword) : TA := fun σ H Q => ∀ (pos : Pos) (pins : List (Addr × Obj)) (s : Shared), Inv X pins σ H s → wpAny (model X.prog X.w) X.A (evalAll ((backToKw pos (keywordEach ks X.env)).map (·.2))) (AP X pins σ Q) X.xe s
section
variable {X : Cx} {e : Expr} {es : List Expr} {ss : List Stmt} {ks : List Keyword} {σ : L2.St} {H : Hp}
theorem pe_we : PE X e (we X e) := ⟨fun pins s _ _ _ I h => h pins s I⟩
theorem pt_wt : PT X e (wt X e) := ⟨fun pins s _ _ _ I h => h pins s I⟩
theorem pw_ww : PW X e (ww X e) := ⟨fun wh pins s _ _ _ I h => h wh pins s I⟩
theorem pa_wa : PA X es (wa X es) := ⟨fun pos pins s _ _ _ I h => h pos pins s I⟩
theorem pb_wb : PSs X ss (wb X ss) := ⟨fun pins s _ _ _ I h => h pins s I⟩
theorem pk_wk : PK X ks (wk X ks) := ⟨fun pos pins s _ _ _ I h => h pos pins s I⟩
theorem we_of {t : TE} (p : PE X e t) {Q : VK} (h : t σ H Q) : we X e σ H Q := fun pins s I => p.run pins s σ H Q I h
theorem wt_of {t : TT} (p : PT X e t) {Q : Bool → Hp → Prop} (h : t σ H Q) : wt X e σ H Q := fun pins s I => p.run pins s σ H Q I h
theorem ww_of {t : TT} (p : PW X e t) {Q : Bool → Hp → Prop} (h : t σ H Q) : ww X e σ H Q := fun wh pins s I => p.run wh pins s σ H Q I h
theorem wa_of {t : TA} (p : PA X es t) {Q : List V → Hp → Prop} (h : t σ H Q) : wa X es σ H Q := fun pos pins s I => p.run pos pins s σ H Q I h
theorem wb_of {t : TS} (p : PSs X ss t) {D : Ends} (h : t D σ H) : wb X ss D σ H := fun pins s I => p.run pins s σ H D I h
theorem wk_of {t : TA} (p : PK X ks t) {Q : List V → Hp → Prop} (h : t σ H Q) : wk X ks σ H Q := fun pos pins s I => p.run pos pins s σ H Q I h
theorem we_mono {Q Q' : VK} (h : we X e σ H Q) (k : ∀ v H', Q v H' → Q' v H') : we X e σ H Q' := fun pins s I => thn (h pins s I) fun _ _ ⟨v, H', I', r, q⟩ => ⟨v, H', I', r, k v H' q⟩
theorem wt_mono {Q Q' : Bool → Hp → Prop} (h : wt X e σ H Q) (k : ∀ v H', Q v H' → Q' v H') : wt X e σ H Q' := fun pins s I => thn (h pins s I) fun b _ ⟨H', I', q⟩ => ⟨H', I', k b H' q⟩
theorem ww_mono {Q Q' : Bool → Hp → Prop} (h : ww X e σ H Q) (k : ∀ v H', Q v H' → Q' v H') : ww X e σ H Q' := fun wh pins s I => thn (h wh pins s I) fun b _ ⟨H', I', q⟩ => ⟨H', I', k b H' q⟩
theorem wa_mono {Q Q' : List V → Hp → Prop} (h : wa X es σ H Q) (k : ∀ v H', Q v H' → Q' v H') : wa X es σ H Q' := fun pos pins s I => thn (h pos pins s I) fun _ _ ⟨v, H', I', r, q⟩ => ⟨v, H', I', r, k v H' q⟩
theorem wk_mono {Q Q' : List V → Hp → Prop} (h : wk X ks σ H Q) (k : ∀ v H', Q v H' → Q' v H') : wk X ks σ H Q' := fun pos pins s I => thn (h pos pins s I) fun _ _ ⟨v, H', I', r, q⟩ => ⟨v, H', I', r, k v H' q⟩
theorem wb_mono {D D' : Ends} (h : wb X ss D σ H) (k1 : ∀ σ H, D.nx σ H → D'.nx σ H) (k2 : ∀ v H, D.rt v H → D'.rt v H) (k3 : ∀ σ H, D.bk σ H → D'.bk σ H) (k4 : ∀ σ H, D.ct σ H → D'.ct σ H) : wb X ss D' σ H := fun pins s I =>
  thn (h pins s I) fun f _ q => by
    cases f with
    | next => obtain ⟨σ', H', I', q⟩ := q; exact ⟨σ', H', I', k1 _ _ q⟩
    | brk => obtain ⟨σ', H', I', q⟩ := q; exact ⟨σ', H', I', k3 _ _ q⟩
    | cont => obtain ⟨σ', H', I', q⟩ := q; exact ⟨σ', H', I', k4 _ _ q⟩
    | ret u => obtain ⟨v, σ', H', I', r, q⟩ := q; exact ⟨v, σ', H', I', r, k2 _ _ q⟩
end

/-! ### what is known of the heap -/
abbrev LL := List (Addr × HO)
/-- behind the entry H0 (M: what may change there): the objects of L stand as they say -/
structure Hs (H0 : Hp) (M : Addr → Prop) (L : LL) (H : Hp) : Prop where
  nd : (L.map (·.1)).Pairwise fun a b => a ≠ b ∨ (H0 a ≠ none ∧ ¬ M a)
  at_ : ∀ q ∈ L, H q.1 = some q.2
  fr : ∀ b o, H0 b = some o → ¬ M b → H b = some o
  md : ∀ b, M b → ∃ o, H b = some o
/-- L' is a part of L -/
abbrev Sub (L' L : LL) : Prop := List.Sublist L' L
/-- f stands at a place of L; g: L with another thing there -/
inductive Spot : LL → Addr → HO → (HO → LL) → Prop where
  | here {L : LL} {a : Addr} {o : HO} : Spot ((a, o) :: L) a o (fun o' => (a, o') :: L)
  | there {L : LL} {a : Addr} {o : HO} {q : Addr × HO} {g : HO → LL} (h : Spot L a o g) : Spot (q :: L) a o (fun o' => q :: g o')
/-- a stands with o in L -/
inductive At : LL → Addr → HO → Prop where
  | here {L : LL} {a : Addr} {o : HO} : At ((a, o) :: L) a o
  | there {L : LL} {a : Addr} {o : HO} {q : Addr × HO} (h : At L a o) : At (q :: L) a o
theorem At.mem {L : LL} {a : Addr} {o : HO} (h : At L a o) : (a, o) ∈ L := by
  induction h with
  | here => exact List.mem_cons_self
  | there _ ih => exact List.mem_cons_of_mem _ ih
theorem At.of_mem : ∀ {L : LL} {a : Addr} {o : HO}, (a, o) ∈ L → At L a o
  | _ :: _, _, _, h => by
    rcases List.mem_cons.mp h with e | h
    · cases e; exact .here
    · exact .there (At.of_mem h)
theorem Spot.mem {L : LL} {a : Addr} {o : HO} {g : HO → LL} (h : Spot L a o g) : (a, o) ∈ L := by
  induction h with
  | here => exact List.mem_cons_self
  | there _ ih => exact List.mem_cons_of_mem _ ih
theorem Spot.keys {L : LL} {a : Addr} {o : HO} {g : HO → LL} (h : Spot L a o g) (o' : HO) : (g o').map (·.1) = L.map (·.1) := by
  induction h with
  | here => rfl
  | there _ ih => show _ :: _ = _ :: _; rw [ih]
theorem Spot.other {L : LL} {a : Addr} {o : HO} {g : HO → LL} (h : Spot L a o g) (o' : HO) : ∀ q ∈ g o', q = (a, o') ∨ (q ∈ L) := by
  induction h with
  | here => intro q hq; rcases List.mem_cons.mp hq with e | hq; exact .inl e; exact .inr (List.mem_cons_of_mem _ hq)
  | there _ ih =>
    intro q hq
    rcases List.mem_cons.mp hq with e | hq
    · exact .inr (by rw [e]; exact List.mem_cons_self)
    · exact (ih q hq).elim .inl fun z => .inr (List.mem_cons_of_mem _ z)
section
variable {H0 H H' : Hp} {M : Addr → Prop} {L L' : LL} {a p : Addr} {o o' : HO} {g : HO → LL}
theorem Hs.get (h : Hs H0 M L H) (m : At L a o) : H a = some o := h.at_ _ m.mem
theorem Hs.sub (h : Hs H0 M L H) (s : Sub L' L) : Hs H0 M L' H := ⟨h.nd.sublist (s.map _), fun q hq => h.at_ q (s.subset hq), h.fr, h.md⟩
theorem Hs.fresh (h : Hs H0 M L H) (n : H p = none) : H0 p = none := by
  cases q : H0 p with
  | none => rfl
  | some u =>
    by_cases m : M p
    · obtain ⟨v, e⟩ := h.md p m
      rw [n] at e; cases e
    · rw [h.fr p u q m] at n; cases n
theorem Hs.notin (h : Hs H0 M L H) (n : H p = none) : p ∉ L.map (·.1) := fun z => by
  obtain ⟨q, hq, e⟩ := List.mem_map.mp z
  have := h.at_ q hq
  rw [e, n] at this; cases this
theorem Hs.notM (h : Hs H0 M L H) (n : H p = none) : ¬ M p := fun z => by
  obtain ⟨v, e⟩ := h.md p z
  rw [n] at e; cases e
/-- a new object -/
theorem Hs.new (h : Hs H0 M L H) (n : H p = none) : Hs H0 M ((p, o) :: L) (upd H p o) where
  nd := List.pairwise_cons.mpr ⟨fun b hb => .inl fun e => h.notin n (by have e2 : p = b := e; rw [e2]; exact hb), h.nd⟩
  at_ := fun q hq => by
    rcases List.mem_cons.mp hq with e | hq
    · rw [e]; exact upd_same
    · have e := h.at_ q hq
      rw [upd_ne (ne_of_none e n)]; exact e
  fr := fun b u e m => by
    have e1 := h.fr b u e m
    rw [upd_ne (ne_of_none e1 n)]; exact e1
  md := fun b m => by
    obtain ⟨v, e⟩ := h.md b m
    exact ⟨v, by rw [upd_ne (ne_of_none e n)]; exact e⟩
theorem Spot.only {a : Addr} {o o' : HO} {R : Addr → Prop} (c : ¬ R a) : ∀ {L : LL} {g : HO → LL}, Spot L a o g → (L.map (·.1)).Pairwise (fun a b => a ≠ b ∨ R a) → ∀ q ∈ g o', q.1 = a → q = (a, o') := by
  intro L g s
  induction s with
  | here =>
    intro nd q hq e
    rcases List.mem_cons.mp hq with z | z
    · exact z
    · exact ((List.pairwise_cons.mp nd).1 q.1 (List.mem_map.mpr ⟨q, z, rfl⟩)).elim (fun ne => absurd e.symm ne) fun r => absurd r c
  | there s ih =>
    intro nd q hq e
    rcases List.mem_cons.mp hq with z | z
    · subst z
      exact ((List.pairwise_cons.mp nd).1 _ (List.mem_map.mpr ⟨_, s.mem, rfl⟩)).elim (fun ne => absurd e ne) fun r => absurd (e ▸ r) c
    · exact ih c (List.pairwise_cons.mp nd).2 q z e
theorem put_not {H0 : Hp} {M : Addr → Prop} {a : Addr} (c : H0 a = none ∨ M a) : ¬ (H0 a ≠ none ∧ ¬ M a) := fun ⟨x, y⟩ => c.elim x y
/-- a known object changes -/
theorem Hs.put (h : Hs H0 M L H) (s : Spot L a o g) (c : H0 a = none ∨ M a) : Hs H0 M (g o') (upd H a o') where
  nd := by rw [s.keys]; exact h.nd
  at_ := fun q hq => by
    by_cases e : q.1 = a
    · rw [s.only (put_not c) h.nd q hq e]; exact upd_same
    · rw [upd_ne e]
      rcases s.other o' q hq with z | z
      · rw [z] at e; exact absurd rfl e
      · exact h.at_ q z
  fr := fun b u e m => by
    by_cases z : b = a
    · subst z
      rcases c with c | c
      · rw [c] at e; cases e
      · exact absurd c m
    · rw [upd_ne z]; exact h.fr b u e m
  md := fun b m => by
    by_cases z : b = a
    · subst z; exact ⟨o', upd_same⟩
    · obtain ⟨v, e⟩ := h.md b m
      exact ⟨v, by rw [upd_ne z]; exact e⟩
/-- the heap grows: all that was tracked stands -/
abbrev Ext (H H' : Hp) : Prop := ∀ b o, H b = some o → H' b = some o
theorem Hs.ext (h : Hs H0 M L H) (e : Ext H H') : Hs H0 M L H' := ⟨h.nd, fun q hq => e _ _ (h.at_ q hq), fun b o z m => e _ _ (h.fr b o z m), fun b m => let ⟨v, z⟩ := h.md b m; ⟨v, e _ _ z⟩⟩
/-- N: new objects -/
structure News (H H' : Hp) (N : LL) : Prop where
  nd : (N.map (·.1)).Nodup
  new : ∀ q ∈ N, H q.1 = none
  at_ : ∀ q ∈ N, H' q.1 = some q.2
theorem News.nil : News H H' [] := ⟨List.nodup_nil, fun _ h => (nomatch h), fun _ h => (nomatch h)⟩
theorem Hs.more {N : LL} (h : Hs H0 M L H) (e : Ext H H') (n : News H H' N) : Hs H0 M (N ++ L) H' where
  nd := by
    rw [List.map_append]
    refine List.pairwise_append.mpr ⟨n.nd.imp fun z => .inl z, h.nd, fun a ha b hb => .inl fun z => ?_⟩
    subst z
    obtain ⟨q, hq, rfl⟩ := List.mem_map.mp ha
    exact h.notin (n.new q hq) hb
  at_ := fun q hq => by
    rcases List.mem_append.mp hq with z | z
    · exact n.at_ q z
    · exact e _ _ (h.at_ q z)
  fr := fun b o z m => e _ _ (h.fr b o z m)
  md := fun b m => let ⟨v, z⟩ := h.md b m; ⟨v, e _ _ z⟩
/-- one object changes, the others stand, new ones come -/
structure Chg (H H' : Hp) (a : Addr) (o' : HO) (N : LL) : Prop where
  fr : ∀ b u, H b = some u → b ≠ a → H' b = some u
  at_ : H' a = some o'
  nw : News H H' N
theorem Hs.chg {N : LL} (h : Hs H0 M L H) (s : Spot L a o g) (c : H0 a = none ∨ M a) (x : Chg H H' a o' N) : Hs H0 M (N ++ g o') H' := by
  have h1 : Hs H0 M (g o') (upd H a o') := h.put s c
  have e : Ext (upd H a o') H' := fun b u z => by
    by_cases q : b = a
    · subst q; rw [upd_same] at z; rw [x.at_]; exact z
    · rw [upd_ne q] at z; exact x.fr b u z q
  refine h1.more e ⟨x.nw.nd, fun q hq => ?_, x.nw.at_⟩
  have n := x.nw.new q hq
  have ne : q.1 ≠ a := fun z => by rw [z, h.at_ _ s.mem] at n; cases n
  rw [upd_ne ne]; exact n
theorem Hs.seq {K : PySem.W.Frag} {xs : List V} (h : Hs H0 M L H) (e : SqL K H0 a xs) (m : ¬ M a) : SqL K H a xs := by
  rcases e with (e | ⟨o, e⟩) | e
  · exact .inl (.inl (h.fr _ _ e m))
  · exact .inl (.inr ⟨o, h.fr _ _ e m⟩)
  · exact .inr e
theorem Hs.sq {K : PySem.W.Frag} {xs : List V} (h : Hs H0 M L H) (m : At L a (.lst xs)) : SqL K H a xs := SqL.of (h.get m)
theorem Hs.st {K : PySem.W.Frag} {xs : List V} (h : Hs H0 M L H) (m : At L a (.tup xs)) : SqT K H a xs := SqT.of (h.get m)
end

/-! ### the goals -/
def up (H0 : Hp) (M : Addr → Prop) (Q : V → LL → Prop) : VK := fun v H => ∃ L, Hs H0 M L H ∧ Q v L
def upT (H0 : Hp) (M : Addr → Prop) (Q : Bool → LL → Prop) : Bool → Hp → Prop := fun v H => ∃ L, Hs H0 M L H ∧ Q v L
def upA (H0 : Hp) (M : Addr → Prop) (Q : List V → LL → Prop) : List V → Hp → Prop := fun v H => ∃ L, Hs H0 M L H ∧ Q v L
structure EL where
  nx : L2.St → LL → Prop
  rt : V → LL → Prop
  bk : L2.St → LL → Prop := fun _ _ => False
  ct : L2.St → LL → Prop := fun _ _ => False
def upS (H0 : Hp) (M : Addr → Prop) (Q : L2.St → LL → Prop) : L2.St → Hp → Prop := fun σ H => ∃ L, Hs H0 M L H ∧ Q σ L
def upD (H0 : Hp) (M : Addr → Prop) (D : EL) : Ends := { nx := upS H0 M D.nx, rt := up H0 M D.rt, bk := upS H0 M D.bk, ct := upS H0 M D.ct }
def ke (X : Cx) (H0 : Hp) (M : Addr → Prop) (e : Expr) (σ : L2.St) (L : LL) (Q : V → LL → Prop) : Prop := ∀ H, Hs H0 M L H → we X e σ H (up H0 M Q)
def kt (X : Cx) (H0 : Hp) (M : Addr → Prop) (e : Expr) (σ : L2.St) (L : LL) (Q : Bool → LL → Prop) : Prop := ∀ H, Hs H0 M L H → wt X e σ H (upT H0 M Q)
def kw (X : Cx) (H0 : Hp) (M : Addr → Prop) (e : Expr) (σ : L2.St) (L : LL) (Q : Bool → LL → Prop) : Prop := ∀ H, Hs H0 M L H → ww X e σ H (upT H0 M Q)
def ka (X : Cx) (H0 : Hp) (M : Addr → Prop) (es : List Expr) (σ : L2.St) (L : LL) (Q : List V → LL → Prop) : Prop := ∀ H, Hs H0 M L H → wa X es σ H (upA H0 M Q)
def kk (X : Cx) (H0 : Hp) (M : Addr → Prop) (es : List Keyword) (σ : L2.St) (L : LL) (Q : List V → LL → Prop) : Prop := ∀ H, Hs H0 M L H → wk X es σ H (upA H0 M Q)
def kb (X : Cx) (H0 : Hp) (M : Addr → Prop) (ss : List Stmt) (nx : L2.St → LL → Prop) (rt : V → LL → Prop) (bk ct : L2.St → LL → Prop) (σ : L2.St) (L : LL) : Prop := ∀ H, Hs H0 M L H → wb X ss (upD H0 M ⟨nx, rt, bk, ct⟩) σ H
/-- an operator, a call of a built-in: on values -/
def wo (X : Cx) (f : Value → Value → Sem Value) : R2 := fun x y H Q => ∀ (pins : List (Addr × Obj)) (s : Shared) (σ : L2.St) (v u : Value), Inv X pins σ H s → RelV x v → RelV y u → wpAny (model X.prog X.w) X.A (f v u) (EP X pins σ Q) X.xe s
def wu (X : Cx) (f : Value → Sem Value) : V → Hp → VK → Prop := fun x H Q => ∀ (pins : List (Addr × Obj)) (s : Shared) (σ : L2.St) (v : Value), Inv X pins σ H s → RelV x v → wpAny (model X.prog X.w) X.A (f v) (EP X pins σ Q) X.xe s
theorem op_wo {X : Cx} {f : Value → Value → Sem Value} : OpR X f (wo X f) := fun pins s σ H x y v u Q I rx ry h => h pins s σ v u I rx ry
theorem wo_of {X : Cx} {f : Value → Value → Sem Value} {r : R2} {x y : V} {H : Hp} {Q : VK} (ho : OpR X f r) (h : r x y H Q) : wo X f x y H Q := fun pins s σ v u I rx ry => ho pins s σ H x y v u Q I rx ry h
theorem wo_mono {X : Cx} {f : Value → Value → Sem Value} {x y : V} {H : Hp} {Q Q' : VK} (h : wo X f x y H Q) (k : ∀ v H', Q v H' → Q' v H') : wo X f x y H Q' := fun pins s σ v u I rx ry => thn (h pins s σ v u I rx ry) fun _ _ ⟨v, H', I', r, q⟩ => ⟨v, H', I', r, k v H' q⟩
theorem op_wu {X : Cx} {f : Value → Sem Value} : UnR X f (wu X f) := fun pins s σ H x v Q I rx h => h pins s σ v I rx
theorem wu_of {X : Cx} {f : Value → Sem Value} {r : V → Hp → VK → Prop} {x : V} {H : Hp} {Q : VK} (ho : UnR X f r) (h : r x H Q) : wu X f x H Q := fun pins s σ v I rx => ho pins s σ H x v Q I rx h
def ro (X : Cx) (H0 : Hp) (M : Addr → Prop) (f : Value → Value → Sem Value) (x y : V) (L : LL) (Q : V → LL → Prop) : Prop := ∀ H, Hs H0 M L H → wo X f x y H (up H0 M Q)
def ru (X : Cx) (H0 : Hp) (M : Addr → Prop) (f : Value → Sem Value) (x : V) (L : LL) (Q : V → LL → Prop) : Prop := ∀ H, Hs H0 M L H → wu X f x H (up H0 M Q)
section
variable {X : Cx} {H0 : Hp} {M : Addr → Prop} {e a b c : Expr} {es : List Expr} {σ : L2.St} {L L' : LL} {Q : V → LL → Prop} {QT : Bool → LL → Prop} {QA : List V → LL → Prop} {pos pos' p : Pos} {ss rest body : List Stmt} {nx : L2.St → LL → Prop} {rt : V → LL → Prop} {bk ct : L2.St → LL → Prop} {st : Stmt} {x y z v : V}
/-! ### expressions -/
theorem ke_var (i : Nat) {x : Str} {v : V} (hv : Vis X.env.scope x) (hN : X.N[i]? = some x) (hs : σ[i]? = some (some v)) (h : Q v L) (hd : (x == ("__debug__" : Str)) = false := by decide) (hcd : (x == ("__classdict__" : Str)) = false := by decide) :
    ke X H0 M (.Name x pos) σ L Q := fun H z => we_of (pe_var hN hv hd hcd) ⟨v, hs, L, z, h⟩
theorem ke_c {e : Expr} {v : V} (p : PE X e (tC v)) (h : Q v L) : ke X H0 M e σ L Q := fun H z => we_of p ⟨L, z, h⟩
theorem ke_int {i j} (h : Q (.int i) L) : ke X H0 M (.Constant (.int i) j pos) σ L Q := ke_c pe_int h
theorem ke_bl {i j} (h : Q (.bl i) L) : ke X H0 M (.Constant (.bool i) j pos) σ L Q := ke_c pe_bl h
theorem ke_non {j} (h : Q .non L) : ke X H0 M (.Constant .none j pos) σ L Q := ke_c pe_non h
theorem ke_str {i j} (h : Q (.str i) L) : ke X H0 M (.Constant (.str i) j pos) σ L Q := ke_c pe_str h
theorem ke_op {op : Operator} (h : ke X H0 M a σ L fun x L1 => ke X H0 M b σ L1 fun y L2 => ro X H0 M (binaryOp op) x y L2 Q) : ke X H0 M (.BinOp a op b pos) σ L Q :=
  fun H z => we_of (pe_op op_wo pe_we pe_we) (we_mono (h H z) fun _ H1 ⟨_, z1, k⟩ => we_mono (k H1 z1) fun _ H2 ⟨_, z2, k2⟩ => k2 H2 z2)
theorem ke_un {op : UnaryOp} (h : ke X H0 M a σ L fun x L1 => ru X H0 M (unaryOp op) x L1 Q) : ke X H0 M (.UnaryOp op a pos) σ L Q :=
  fun H z => we_of (pe_un op_wu pe_we) (we_mono (h H z) fun _ H1 ⟨_, z1, k⟩ => k H1 z1)
theorem ke_cmp {op : CmpOp} (hm : behindInMarks op b = false) (h : ke X H0 M a σ L fun x L1 => ke X H0 M b σ L1 fun y L2 => ro X H0 M (compareOp op) x y L2 Q) : ke X H0 M (.Compare a [op] [b] pos) σ L Q :=
  fun H z => we_of (pe_cmpR op_wo pe_we pe_we hm) (we_mono (h H z) fun _ H1 ⟨_, z1, k⟩ => we_mono (k H1 z1) fun _ H2 ⟨_, z2, k2⟩ => k2 H2 z2)
/-- a truth value that parts the way -/
def Pick (v : V) (A B : Prop) : Prop := ∃ k, v = .bl k ∧ (k = true → A) ∧ (k = false → B)
def PickB (k : Bool) (A B : Prop) : Prop := (k = true → A) ∧ (k = false → B)
theorem ke_chain {op op' : CmpOp} (hm : lastMarks [op, op'] [b, c] = false)
    (h : ke X H0 M a σ L fun x L1 => ke X H0 M b σ L1 fun y L2 => ro X H0 M (compareOp op) x y L2 fun t L3 => Pick t (ke X H0 M c σ L3 fun w L4 => ro X H0 M (compareOp op') y w L4 Q) (Q (.bl false) L3)) : ke X H0 M (.Compare a [op, op'] [b, c] pos) σ L Q :=
  fun H z => by
  refine we_of (pe_chain op_wo op_wo pe_we pe_we pe_we hm) (we_mono (h H z) fun x H1 ⟨L1, z1, k1⟩ => we_mono (k1 H1 z1) fun y H2 ⟨L2, z2, k2⟩ => wo_mono (k2 H2 z2) fun t H3 ⟨L3, z3, k, e, kt, kf⟩ => ⟨k, e, ?_⟩)
  cases k with
  | true => exact iteT (we_mono (kt rfl H3 z3) fun w H4 ⟨L4, z4, k4⟩ => k4 H4 z4)
  | false => exact iteF ⟨L3, z3, kf rfl⟩
theorem ke_if (h : kt X H0 M c σ L fun k L1 => PickB k (ke X H0 M a σ L1 Q) (ke X H0 M b σ L1 Q)) : ke X H0 M (.IfExp c a b pos) σ L Q := fun H z => by
  refine we_of (pe_ifExp pt_wt pe_we pe_we) (wt_mono (h H z) fun k H1 ⟨L1, z1, k1, k2⟩ => ?_)
  cases k with
  | true => exact iteT (k1 rfl H1 z1)
  | false => exact iteF (k2 rfl H1 z1)
theorem ke_one {op} (h : ke X H0 M a σ L Q) : ke X H0 M (.BoolOp op [a] pos) σ L Q := fun H z => we_of (pe_one pe_we) (h H z)
theorem ke_and {rest : List Expr} (h : ke X H0 M a σ L fun x L1 => Pick x (ke X H0 M (.BoolOp .And (b :: rest) pos) σ L1 Q) (Q (.bl false) L1)) : ke X H0 M (.BoolOp .And (a :: b :: rest) pos) σ L Q := fun H z => by
  refine we_of (pe_and pe_we pe_we) (we_mono (h H z) fun x H1 ⟨L1, z1, k, e, k1, k2⟩ => ⟨k, e, ?_⟩)
  cases k with
  | true => exact iteT (k1 rfl H1 z1)
  | false => exact iteF ⟨L1, z1, k2 rfl⟩
theorem ke_or {rest : List Expr} (h : ke X H0 M a σ L fun x L1 => Pick x (Q (.bl true) L1) (ke X H0 M (.BoolOp .Or (b :: rest) pos) σ L1 Q)) : ke X H0 M (.BoolOp .Or (a :: b :: rest) pos) σ L Q := fun H z => by
  refine we_of (pe_or pe_we pe_we) (we_mono (h H z) fun x H1 ⟨L1, z1, k, e, k1, k2⟩ => ⟨k, e, ?_⟩)
  cases k with
  | true => exact iteT ⟨L1, z1, k1 rfl⟩
  | false => exact iteF (k2 rfl H1 z1)
theorem ke_not (h : ke X H0 M a σ L fun x L1 => ∃ k, x = .bl k ∧ Q (.bl (!k)) L1) : ke X H0 M (.UnaryOp .Not a pos) σ L Q := fun H z =>
  we_of (pe_not pe_we) (we_mono (h H z) fun x H1 ⟨L1, z1, k, e, k1⟩ => ⟨k, e, L1, z1, k1⟩)
/-! ### displays, arguments -/
theorem ka_nil (h : QA [] L) : ka X H0 M [] σ L QA := fun H z => wa_of pa_nil ⟨L, z, h⟩
theorem ka_cons (hs : starEach (e :: es) X.env = (false, eval e X.env) :: starEach es X.env) (h : ke X H0 M e σ L fun x L1 => ka X H0 M es σ L1 fun xs L2 => QA (x :: xs) L2) : ka X H0 M (e :: es) σ L QA := fun H z =>
  wa_of (pa_cons pe_we pa_wa hs) (we_mono (h H z) fun x H1 ⟨L1, z1, k⟩ => wa_mono (k H1 z1) fun xs H2 q => q)
theorem kk_nil (h : QA [] L) : kk X H0 M [] σ L QA := fun H z => wk_of pk_nil ⟨L, z, h⟩
theorem kk_cons {nm kpos kws} (h : ke X H0 M e σ L fun x L1 => kk X H0 M kws σ L1 fun xs L2 => QA (x :: xs) L2) : kk X H0 M (⟨nm, e, kpos⟩ :: kws) σ L QA := fun H z =>
  wk_of (pk_cons pe_we pk_wk) (we_mono (h H z) fun x H1 ⟨L1, z1, k⟩ => wk_mono (k H1 z1) fun xs H2 q => q)
/-- a new object comes, then Q -/
def New (H0 : Hp) (o : HO) (L : LL) (Q : V → LL → Prop) : Prop := ∀ p, H0 p = none → Q (.ref p) ((p, o) :: L)
theorem new_up {o : HO} {H : Hp} (z : Hs H0 M L H) (k : New H0 o L Q) : ∀ p, H p = none → up H0 M Q (.ref p) (upd H p o) := fun p n => ⟨(p, o) :: L, z.new n, k p (z.fresh n)⟩
theorem ke_lst (h : ka X H0 M es σ L fun xs L1 => xs.length ≤ sizeLine ∧ New H0 (.lst xs) L1 Q) : ke X H0 M (.List es pos) σ L Q := fun H z =>
  we_of (pe_lst pa_wa) (wa_mono (h H z) fun xs H1 ⟨L1, z1, hl, k⟩ => ⟨hl, new_up z1 k⟩)
theorem ke_tup {x1} (h : ka X H0 M es σ L fun xs L1 => xs.length ≤ sizeLine ∧ New H0 (.tup xs) L1 Q) : ke X H0 M (.Tuple es x1 pos) σ L Q := fun H z =>
  we_of (pe_tup pa_wa) (wa_mono (h H z) fun xs H1 ⟨L1, z1, hl, k⟩ => ⟨hl, new_up z1 k⟩)
/-! ### operators on ints -/
theorem ro_of {f : Value → Value → Sem Value} {r : R2} (ho : OpR X f r) (h : ∀ H, Hs H0 M L H → r x y H (up H0 M Q)) : ro X H0 M f x y L Q := fun H z => wo_of ho (h H z)
theorem ru_of {f : Value → Sem Value} {r : V → Hp → VK → Prop} (ho : UnR X f r) (h : ∀ H, Hs H0 M L H → r x H (up H0 M Q)) : ru X H0 M f x L Q := fun H z => wu_of ho (h H z)
section
variable {i j : Int}
theorem ro_add (h : Q (.int (i + j)) L) : ro X H0 M (binaryOp .Add) (.int i) (.int j) L Q := ro_of op_add fun _ z => ⟨i, j, rfl, rfl, L, z, h⟩
theorem ro_sub (h : Q (.int (i - j)) L) : ro X H0 M (binaryOp .Sub) (.int i) (.int j) L Q := ro_of op_sub fun _ z => ⟨i, j, rfl, rfl, L, z, h⟩
theorem ro_mulL (c : -(2 ^ 64) < i ∧ i < 2 ^ 64) (h : Q (.int (i * j)) L) : ro X H0 M (binaryOp .Mult) (.int i) (.int j) L Q := ro_of op_mul fun _ z => ⟨i, j, rfl, rfl, .inl c, L, z, h⟩
theorem ro_mulR (c : -(2 ^ 64) < j ∧ j < 2 ^ 64) (h : Q (.int (i * j)) L) : ro X H0 M (binaryOp .Mult) (.int i) (.int j) L Q := ro_of op_mul fun _ z => ⟨i, j, rfl, rfl, .inr c, L, z, h⟩
theorem ro_mulW {m n : Nat} (ha : i.natAbs < 2 ^ m) (hb : j.natAbs < 2 ^ n) (h0 : 0 < m ∧ 0 < n ∧ m + n ≤ 1000000) (h : Q (.int (i * j)) L) : ro X H0 M (binaryOp .Mult) (.int i) (.int j) L Q :=
  ro_of op_mulW fun _ z => ⟨i, j, rfl, rfl, wide_mul ha hb h0.1 h0.2.1 h0.2.2, L, z, h⟩
theorem ro_mod (c : 0 < j) (h : Q (.int (i % j)) L) : ro X H0 M (binaryOp .Mod) (.int i) (.int j) L Q := ro_of op_modN fun _ z => ⟨i, j, rfl, rfl, (by intro e; omega), L, z, by
  show Q (.int (i.fmod j)) L
  rw [Int.fmod_eq_emod_of_nonneg i (by omega)]; exact h⟩
theorem ro_div {n : Nat} (c : 0 < j) (hb : j.natAbs < 2 ^ n) (h9 : 0 < n ∧ n ≤ 9000) (h : Q (.int (i / j)) L) : ro X H0 M (binaryOp .FloorDiv) (.int i) (.int j) L Q :=
  ro_of op_fdivW fun _ z => ⟨i, j, rfl, rfl, wide_div c hb h9.1 h9.2, L, z, h⟩
theorem ro_pow (c : 0 ≤ j ∧ j ≤ 1000000 ∧ i.natAbs < 2 ^ 64) (h : Q (.int (i ^ j.toNat)) L) : ro X H0 M (binaryOp .Pow) (.int i) (.int j) L Q := ro_of op_pow fun _ z => ⟨i, j, rfl, rfl, c, L, z, h⟩
theorem ro_powV (r : Int) (c : 0 ≤ j ∧ j ≤ 1000000 ∧ i.natAbs < 2 ^ 64) (e : i ^ j.toNat = r) (h : Q (.int r) L) : ro X H0 M (binaryOp .Pow) (.int i) (.int j) L Q := ro_pow c (by rw [e]; exact h)
theorem ro_pow3 (c : i.natAbs < 2 ^ 64) (h : Q (.int (i * i * i)) L) : ro X H0 M (binaryOp .Pow) (.int i) (.int 3) L Q := ro_powV _ ⟨by decide, by decide, c⟩ (by show i ^ 3 = _; rw [Int.pow_succ, Int.pow_succ, Int.pow_succ, Int.pow_zero, Int.one_mul]) h
theorem ro_pow9 (h : Q (.int 1000000000) L) : ro X H0 M (binaryOp .Pow) (.int 10) (.int 9) L Q := ro_powV 1000000000 ⟨by decide, by decide, by decide⟩ (by decide +kernel) h
theorem ro_pow12 (h : Q (.int 1000000000000) L) : ro X H0 M (binaryOp .Pow) (.int 10) (.int 12) L Q := ro_powV 1000000000000 ⟨by decide, by decide, by decide⟩ (by decide +kernel) h
theorem ro_pow13 (h : Q (.int 10000000000000) L) : ro X H0 M (binaryOp .Pow) (.int 10) (.int 13) L Q := ro_powV 10000000000000 ⟨by decide, by decide, by decide⟩ (by decide +kernel) h
theorem ro_pow18 (h : Q (.int 1000000000000000000) L) : ro X H0 M (binaryOp .Pow) (.int 10) (.int 18) L Q := ro_powV 1000000000000000000 ⟨by decide, by decide, by decide⟩ (by decide +kernel) h
theorem ro_pow20 (h : Q (.int 100000000000000000000) L) : ro X H0 M (binaryOp .Pow) (.int 10) (.int 20) L Q := ro_powV 100000000000000000000 ⟨by decide, by decide, by decide⟩ (by decide +kernel) h
theorem ro_pow30 (h : Q (.int 1000000000000000000000000000000) L) : ro X H0 M (binaryOp .Pow) (.int 10) (.int 30) L Q := ro_powV 1000000000000000000000000000000 ⟨by decide, by decide, by decide⟩ (by decide +kernel) h
theorem ro_pow40 (h : Q (.int 10000000000000000000000000000000000000000) L) : ro X H0 M (binaryOp .Pow) (.int 10) (.int 40) L Q := ro_powV 10000000000000000000000000000000000000000 ⟨by decide, by decide, by decide⟩ (by decide +kernel) h
theorem ro_pow58 (h : Q (.int 10000000000000000000000000000000000000000000000000000000000) L) : ro X H0 M (binaryOp .Pow) (.int 10) (.int 58) L Q := ro_powV 10000000000000000000000000000000000000000000000000000000000 ⟨by decide, by decide, by decide⟩ (by decide +kernel) h
theorem ro_pow59 (h : Q (.int 100000000000000000000000000000000000000000000000000000000000) L) : ro X H0 M (binaryOp .Pow) (.int 10) (.int 59) L Q := ro_powV 100000000000000000000000000000000000000000000000000000000000 ⟨by decide, by decide, by decide⟩ (by decide +kernel) h
theorem ro_pow60 (h : Q (.int 1000000000000000000000000000000000000000000000000000000000000) L) : ro X H0 M (binaryOp .Pow) (.int 10) (.int 60) L Q := ro_powV 1000000000000000000000000000000000000000000000000000000000000 ⟨by decide, by decide, by decide⟩ (by decide +kernel) h
theorem ro_lt (h : Q (.bl (decide (i < j))) L) : ro X H0 M (compareOp .Lt) (.int i) (.int j) L Q := ro_of op_lt fun _ z => ⟨i, j, rfl, rfl, L, z, h⟩
theorem ro_le (h : Q (.bl (decide (i ≤ j))) L) : ro X H0 M (compareOp .LtE) (.int i) (.int j) L Q := ro_of op_le fun _ z => ⟨i, j, rfl, rfl, L, z, h⟩
theorem ro_gt (h : Q (.bl (decide (j < i))) L) : ro X H0 M (compareOp .Gt) (.int i) (.int j) L Q := ro_of op_gt fun _ z => ⟨i, j, rfl, rfl, L, z, h⟩
theorem ro_ge (h : Q (.bl (decide (j ≤ i))) L) : ro X H0 M (compareOp .GtE) (.int i) (.int j) L Q := ro_of op_ge fun _ z => ⟨i, j, rfl, rfl, L, z, h⟩
theorem dec_int {i j : Int} : decide (V.int i = V.int j) = decide (i = j) := by
  by_cases e : i = j
  · subst e; simp
  · rw [decide_eq_false e, decide_eq_false fun q => e (V.int.inj q)]
theorem dec_str {i j : Str} : decide (V.str i = V.str j) = decide (i = j) := by
  by_cases e : i = j
  · subst e; simp
  · rw [decide_eq_false e, decide_eq_false fun q => e (V.str.inj q)]
theorem ro_eq (h : Q (.bl (decide (i = j))) L) : ro X H0 M (compareOp .Eq) (.int i) (.int j) L Q := ro_of op_eq fun _ z => ⟨rfl, L, z, by rw [dec_int]; exact h⟩
theorem ro_ne (h : Q (.bl (!decide (i = j))) L) : ro X H0 M (compareOp .NotEq) (.int i) (.int j) L Q := ro_of op_ne fun _ z => ⟨rfl, L, z, by rw [dec_int]; exact h⟩
theorem ro_eqS {x y : Str} (h : Q (.bl (decide (x = y))) L) : ro X H0 M (compareOp .Eq) (.str x) (.str y) L Q := ro_of op_eq fun _ z => ⟨rfl, L, z, by rw [dec_str]; exact h⟩
theorem ro_neS {x y : Str} (h : Q (.bl (!decide (x = y))) L) : ro X H0 M (compareOp .NotEq) (.str x) (.str y) L Q := ro_of op_ne fun _ z => ⟨rfl, L, z, by rw [dec_str]; exact h⟩
theorem ro_isN (h : Q (.bl (decide (x = .non))) L) : ro X H0 M (compareOp .Is) x .non L Q := ro_of op_isN fun _ z => ⟨rfl, L, z, h⟩
theorem ro_notN (h : Q (.bl (!decide (x = .non))) L) : ro X H0 M (compareOp .IsNot) x .non L Q := ro_of op_notN fun _ z => ⟨rfl, L, z, h⟩
theorem ru_neg (h : Q (.int (-i)) L) : ru X H0 M (unaryOp .USub) (.int i) L Q := ru_of un_neg fun _ z => ⟨i, rfl, L, z, h⟩
end
end
/-! ### tests -/
section
variable {X : Cx} {H0 : Hp} {M : Addr → Prop} {e a b c : Expr} {es : List Expr} {σ : L2.St} {L L' : LL} {Q : V → LL → Prop} {QT : Bool → LL → Prop} {QA : List V → LL → Prop} {pos pos' p : Pos} {ss rest body : List Stmt} {nx : L2.St → LL → Prop} {rt : V → LL → Prop} {bk ct : L2.St → LL → Prop} {st : Stmt} {x y z v : V}
theorem kt_val (he : ∀ whole, isTrue e X.env whole = (do let v ← whole; standAt e.pos; holding [v] (truthy v))) (h : ke X H0 M e σ L fun x L1 => ∃ k, x = .bl k ∧ QT k L1) : kt X H0 M e σ L QT := fun H z =>
  wt_of (pt_val pe_we he) (we_mono (h H z) fun x H1 ⟨L1, z1, k, e, q⟩ => ⟨k, e, L1, z1, q⟩)
theorem kt_cmp {op : CmpOp} (hm : behindInMarks op b = false) (h : ke X H0 M a σ L fun x L1 => ke X H0 M b σ L1 fun y L2 => ro X H0 M (compareOp op) x y L2 fun t L3 => ∃ k, t = .bl k ∧ QT k L3) : kt X H0 M (.Compare a [op] [b] pos) σ L QT := fun H z =>
  wt_of (pt_cmpR op_wo pe_we pe_we hm) (we_mono (h H z) fun x H1 ⟨L1, z1, k⟩ => we_mono (k H1 z1) fun y H2 ⟨L2, z2, k2⟩ => wo_mono (k2 H2 z2) fun t H3 ⟨L3, z3, b, e, q⟩ => ⟨b, e, L3, z3, q⟩)
theorem kt_chain {op op' : CmpOp} (hm : lastMarks [op, op'] [b, c] = false)
    (h : ke X H0 M a σ L fun x L1 => ke X H0 M b σ L1 fun y L2 => ro X H0 M (compareOp op) x y L2 fun t L3 => Pick t (ke X H0 M c σ L3 fun w L4 => ro X H0 M (compareOp op') y w L4 fun t L5 => ∃ k, t = .bl k ∧ QT k L5) (QT false L3)) : kt X H0 M (.Compare a [op, op'] [b, c] pos) σ L QT := fun H z => by
  refine wt_of (pt_chain op_wo op_wo pe_we pe_we pe_we hm) (we_mono (h H z) fun x H1 ⟨L1, z1, k1⟩ => we_mono (k1 H1 z1) fun y H2 ⟨L2, z2, k2⟩ => wo_mono (k2 H2 z2) fun t H3 ⟨L3, z3, k, e, kt, kf⟩ => ⟨k, e, ?_⟩)
  cases k with
  | true => exact iteT (we_mono (kt rfl H3 z3) fun w H4 ⟨L4, z4, k4⟩ => wo_mono (k4 H4 z4) fun t H5 ⟨L5, z5, b, e, q⟩ => ⟨b, e, L5, z5, q⟩)
  | false => exact iteF ⟨false, rfl, L3, z3, kf rfl⟩
theorem kt_not (h : kt X H0 M a σ L fun k L1 => QT (!k) L1) : kt X H0 M (.UnaryOp .Not a pos) σ L QT := fun H z => wt_of (pt_not pt_wt) (wt_mono (h H z) fun k H1 q => q)
theorem kt_w (h : kw X H0 M e σ L QT) : kt X H0 M e σ L QT := fun H z => wt_of (PW.pt pw_ww) (h H z)
theorem kw_and1 (h : kt X H0 M a σ L QT) : kw X H0 M (.BoolOp .And [a] pos) σ L QT := fun H z => ww_of (pw_and1 pt_wt) (h H z)
theorem kw_or1 (h : kt X H0 M a σ L QT) : kw X H0 M (.BoolOp .Or [a] pos) σ L QT := fun H z => ww_of (pw_or1 pt_wt) (h H z)
theorem kw_and {rest : List Expr} (h : kt X H0 M a σ L fun k L1 => PickB k (kw X H0 M (.BoolOp .And (b :: rest) pos) σ L1 QT) (QT false L1)) : kw X H0 M (.BoolOp .And (a :: b :: rest) pos) σ L QT := fun H z => by
  refine ww_of (pw_and pt_wt pw_ww) (wt_mono (h H z) fun k H1 ⟨L1, z1, k1, k2⟩ => ?_)
  cases k with
  | true => exact iteT (k1 rfl H1 z1)
  | false => exact iteF ⟨L1, z1, k2 rfl⟩
theorem kw_or {rest : List Expr} (h : kt X H0 M a σ L fun k L1 => PickB k (QT true L1) (kw X H0 M (.BoolOp .Or (b :: rest) pos) σ L1 QT)) : kw X H0 M (.BoolOp .Or (a :: b :: rest) pos) σ L QT := fun H z => by
  refine ww_of (pw_or pt_wt pw_ww) (wt_mono (h H z) fun k H1 ⟨L1, z1, k1, k2⟩ => ?_)
  cases k with
  | true => exact iteT ⟨L1, z1, k1 rfl⟩
  | false => exact iteF (k2 rfl H1 z1)
/-! ### statements: one, then the rest -/
theorem kb_nil (s : Sub L' L) (h : nx σ L') : kb X H0 M [] nx rt bk ct σ L := fun H z => wb_of pss_nil ⟨L', z.sub s, h⟩
theorem kb_nil' (h : nx σ L) : kb X H0 M [] nx rt bk ct σ L := kb_nil (List.Sublist.refl _) h
/-- one statement -/
def wst (X : Cx) (st : Stmt) : TS := fun D σ H => ∀ (pins : List (Addr × Obj)) (s : Shared), Inv X pins σ H s → wpAny (model X.prog X.w) X.A (exec st X.env) (SP X pins D) X.xe s
theorem ps_wst : PS X st (wst X st) := ⟨fun pins s _ _ _ I h => h pins s I⟩
theorem wst_of {t : TS} {D : Ends} {H : Hp} (p : PS X st t) (h : t D σ H) : wst X st D σ H := fun pins s I => p.run pins s σ H D I h
theorem sp_mono {D D' : Ends} {pins : List (Addr × Obj)} {f : Flow} {s : Shared} (q : SP X pins D f s) (k1 : ∀ σ H, D.nx σ H → D'.nx σ H) (k2 : ∀ v H, D.rt v H → D'.rt v H) (k3 : ∀ σ H, D.bk σ H → D'.bk σ H) (k4 : ∀ σ H, D.ct σ H → D'.ct σ H) : SP X pins D' f s := by
  cases f with
  | next => obtain ⟨σ', H', I', q⟩ := q; exact ⟨σ', H', I', k1 _ _ q⟩
  | brk => obtain ⟨σ', H', I', q⟩ := q; exact ⟨σ', H', I', k3 _ _ q⟩
  | cont => obtain ⟨σ', H', I', q⟩ := q; exact ⟨σ', H', I', k4 _ _ q⟩
  | ret u => obtain ⟨v, σ', H', I', r, q⟩ := q; exact ⟨v, σ', H', I', r, k2 _ _ q⟩
def ks (X : Cx) (H0 : Hp) (M : Addr → Prop) (st : Stmt) (nx : L2.St → LL → Prop) (rt : V → LL → Prop) (bk ct : L2.St → LL → Prop) (σ : L2.St) (L : LL) : Prop := ∀ H, Hs H0 M L H → wst X st (upD H0 M ⟨nx, rt, bk, ct⟩) σ H
theorem ks_of {t : TS} (p : PS X st t) (h : ∀ H, Hs H0 M L H → t (upD H0 M ⟨nx, rt, bk, ct⟩) σ H) : ks X H0 M st nx rt bk ct σ L := fun H z => wst_of p (h H z)
theorem kb_seq (h : ks X H0 M st (fun σ L => kb X H0 M rest nx rt bk ct σ L) rt bk ct σ L) : kb X H0 M (st :: rest) nx rt bk ct σ L := fun H z =>
  wb_of (pss_cons ps_wst pb_wb) fun pins s I => thn (h H z pins s I) fun f s' q => sp_mono q (fun σ' H' ⟨L', z', k⟩ => k H' z') (fun _ _ q => q) (fun _ _ q => q) (fun _ _ q => q)
/-- a word between: what follows is shown once -/
theorem kb_cut (Mid : L2.St → LL → Prop) (h : ks X H0 M st Mid rt bk ct σ L) (k : ∀ σ L, Mid σ L → kb X H0 M rest nx rt bk ct σ L) : kb X H0 M (st :: rest) nx rt bk ct σ L := kb_seq fun H z pins s I =>
  thn (h H z pins s I) fun f s' q => sp_mono q (fun σ' H' ⟨L', z', m⟩ => ⟨L', z', k σ' L' m⟩) (fun _ _ q => q) (fun _ _ q => q) (fun _ _ q => q)
theorem ks_set (i : Nat) {x : Str} {pos' : Pos} (hN : X.N.Nodup) (hx : Loc X.env.scope x) (hi : X.N[i]? = some x) (hf : X.fn x = true ∨ X.env.scope.names.lookup x = some .local) (hs : swapsWith e (some (.Name x pos')) pos.line X.env = pure false)
    (h : ke X H0 M e σ L fun v L1 => nx (σ.set i (some v)) L1) : ks X H0 M (.Assign [.Name x pos'] e pos) nx rt bk ct σ L :=
  ks_of (ps_set hN hi hx pe_we hs hf) fun H z => we_mono (h H z) fun v H1 ⟨L1, z1, k⟩ => ⟨L1, z1, k⟩
theorem ks_ret (h : ke X H0 M e σ L rt) : ks X H0 M (.Return (some e) pos) nx rt bk ct σ L := ks_of (ps_ret pe_we) fun H z => h H z
theorem ks_retN (h : rt .non L) : ks X H0 M (.Return none pos) nx rt bk ct σ L := ks_of ps_retN fun H z => ⟨L, z, h⟩
theorem ks_expr (hs : swapsWith e none pos.line X.env = pure false) (h : ke X H0 M e σ L fun _ L1 => nx σ L1) : ks X H0 M (.Expr e pos) nx rt bk ct σ L :=
  ks_of (ps_expr pe_we hs) fun H z => we_mono (h H z) fun v H1 ⟨L1, z1, k⟩ => ⟨L1, z1, k⟩
theorem ks_doc {x j} (h : nx σ L) : ks X H0 M (.Expr (.Constant (.str x) j pos) pos') nx rt bk ct σ L := ks_of ps_doc fun H z => ⟨L, z, h⟩
theorem ks_pass (h : nx σ L) : ks X H0 M (.Pass pos) nx rt bk ct σ L := ks_of ps_pass fun H z => ⟨L, z, h⟩
theorem ks_break (s : Sub L' L) (h : bk σ L') : ks X H0 M (.Break pos) nx rt bk ct σ L := ks_of ps_break fun H z => ⟨L', z.sub s, h⟩
theorem ks_cont (s : Sub L' L) (h : ct σ L') : ks X H0 M (.Continue pos) nx rt bk ct σ L := ks_of ps_continue fun H z => ⟨L', z.sub s, h⟩
theorem ks_if {A B : List Stmt} (h : kt X H0 M c σ L fun k L1 => PickB k (kb X H0 M A nx rt bk ct σ L1) (kb X H0 M B nx rt bk ct σ L1)) : ks X H0 M (.If c A B pos) nx rt bk ct σ L :=
  ks_of (ps_if pt_wt pb_wb pb_wb) fun H z => wt_mono (h H z) fun k H1 ⟨L1, z1, k1, k2⟩ => by
    cases k with
    | true => exact iteT (k1 rfl H1 z1)
    | false => exact iteF (k2 rfl H1 z1)
theorem kb_never (h : False) : kb X H0 M ss nx rt bk ct σ L := h.elim
/-- a target -/
def kg (X : Cx) (H0 : Hp) (M : Addr → Prop) (tg : Expr) (v : V) (σ : L2.St) (L : LL) (P : L2.St → LL → Prop) : Prop := ∀ H, Hs H0 M L H → ∀ (pins : List (Addr × Obj)) (s : Shared) (u : Value), Inv X pins σ H s → RelV v u →
  wpAny (model X.prog X.w) X.A (assign tg X.env u) (fun _ s' => ∃ σ' H', Inv X pins σ' H' s' ∧ upS H0 M P σ' H') X.xe s
def wg (X : Cx) (tg : Expr) : TG := fun v σ H Q => ∀ (pins : List (Addr × Obj)) (s : Shared) (u : Value), Inv X pins σ H s → RelV v u → wpAny (model X.prog X.w) X.A (assign tg X.env u) (fun _ s' => ∃ σ' H', Inv X pins σ' H' s' ∧ Q σ' H') X.xe s
theorem pg_wg {tg : Expr} : PG X tg (wg X tg) := ⟨fun pins s _ _ _ u _ I r h => h pins s u I r⟩
theorem kg_of {tg : Expr} {g : TG} {P : L2.St → LL → Prop} (p : PG X tg g) (h : ∀ H, Hs H0 M L H → g v σ H (upS H0 M P)) : kg X H0 M tg v σ L P := fun H z pins s u I r => p.run pins s σ H v u _ I r (h H z)
theorem kg_name (i : Nat) {x : Str} {P : L2.St → LL → Prop} (hN : X.N.Nodup) (hx : Loc X.env.scope x) (hi : X.N[i]? = some x) (hf : X.fn x = true ∨ X.env.scope.names.lookup x = some .local) (h : P (σ.set i (some v)) L) : kg X H0 M (.Name x pos) v σ L P :=
  kg_of (pg_name hN hi hx hf) fun H z => ⟨L, z, h⟩
theorem ks_asg {tg : Expr} (hs : swapsWithSole [tg] e pos.line X.env = pure false) (hw : swappedStores [tg] e X.env = pure none) (h1 : (assignEach [tg] X.env).map (·.2) = [assign tg X.env])
    (h : ke X H0 M e σ L fun v L1 => kg X H0 M tg v σ L1 nx) : ks X H0 M (.Assign [tg] e pos) nx rt bk ct σ L :=
  ks_of (ps_asg pe_we pg_wg hs hw h1) fun H z => we_mono (h H z) fun v H1 ⟨L1, z1, k⟩ => fun pins s u I r => k H1 z1 pins s u I r
end
/-! ### names by lists -/
/-- the name x has the value v -/
inductive Lk : List Str → L2.St → Str → V → Prop where
  | here {N : List Str} {σ : L2.St} {x : Str} {v : V} : Lk (x :: N) (some v :: σ) x v
  | there {N : List Str} {σ : L2.St} {x y : Str} {v : V} {o : Option V} (h : Lk N σ x v) : Lk (y :: N) (o :: σ) x v
/-- the name x gets the value v -/
inductive Pt : List Str → L2.St → Str → V → L2.St → Prop where
  | here {N : List Str} {σ : L2.St} {x : Str} {v : V} {o : Option V} : Pt (x :: N) (o :: σ) x v (some v :: σ)
  | there {N : List Str} {σ σ' : L2.St} {x y : Str} {v : V} {o : Option V} (h : Pt N σ x v σ') : Pt (y :: N) (o :: σ) x v (o :: σ')
theorem Lk.ix {N : List Str} {σ : L2.St} {x : Str} {v : V} (h : Lk N σ x v) : x ∈ N ∧ ∃ i : Nat, N[i]? = some x ∧ σ[i]? = some (some v) := by
  induction h with
  | here => exact ⟨List.mem_cons_self, 0, rfl, rfl⟩
  | there _ ih => obtain ⟨m, i, a, b⟩ := ih; exact ⟨List.mem_cons_of_mem _ m, i + 1, a, b⟩
theorem Pt.ix {N : List Str} {σ σ' : L2.St} {x : Str} {v : V} (h : Pt N σ x v σ') : x ∈ N ∧ ∃ i : Nat, N[i]? = some x ∧ σ.set i (some v) = σ' := by
  induction h with
  | here => exact ⟨List.mem_cons_self, 0, rfl, rfl⟩
  | there _ ih => obtain ⟨m, i, a, b⟩ := ih; exact ⟨List.mem_cons_of_mem _ m, i + 1, a, by rw [List.set_cons_succ, b]⟩
/-- what is known of the names: Nv are read, Nw are stored -/
structure Nm (X : Cx) (N Nv : List Str) : Prop where
  eq : X.N = N
  vis : ∀ x ∈ Nv, Vis X.env.scope x
  plain : ∀ x ∈ Nv, (x == ("__debug__" : Str)) = false ∧ (x == ("__classdict__" : Str)) = false
structure Ns (X : Cx) (N Nv : List Str) : Prop where
  eq : X.N = N
  nd : N.Nodup
  loc : ∀ x ∈ Nv, Loc X.env.scope x ∧ (X.fn x = true ∨ X.env.scope.names.lookup x = some .local)
section
variable {X : Cx} {H0 : Hp} {M : Addr → Prop} {e : Expr} {σ σ' : L2.St} {L : LL} {Q : V → LL → Prop} {pos pos' : Pos} {nx : L2.St → LL → Prop} {rt : V → LL → Prop} {bk ct : L2.St → LL → Prop} {v : V} {N Nv : List Str} {x : Str}
theorem ke_nm (n : Nm X N Nv) (m : x ∈ Nv) (l : Lk N σ x v) (h : Q v L) : ke X H0 M (.Name x pos) σ L Q := by
  obtain ⟨_, i, a, b⟩ := l.ix
  exact ke_var i (n.vis x m) (by rw [n.eq]; exact a) b h (n.plain x m).1 (n.plain x m).2
theorem Ns.ix (n : Ns X N Nv) {i : Nat} (hi : X.N[i]? = some x) (p : Pt N σ x v σ') : σ.set i (some v) = σ' := by
  obtain ⟨_, j, hj, ej⟩ := p.ix
  rw [n.eq] at hi
  have e : i = j := by
    obtain ⟨a1, a2⟩ := List.getElem?_eq_some_iff.mp hi
    obtain ⟨b1, b2⟩ := List.getElem?_eq_some_iff.mp hj
    exact (List.getElem_inj n.nd).mp (a2.trans b2.symm)
  subst e
  exact ej
theorem ks_nm (n : Ns X N Nv) (m : x ∈ Nv) (hs : swapsWith e (some (.Name x pos')) pos.line X.env = pure false) (h : ke X H0 M e σ L fun v L1 => ∃ σ', Pt N σ x v σ' ∧ nx σ' L1) (mN : x ∈ N) : ks X H0 M (.Assign [.Name x pos'] e pos) nx rt bk ct σ L := by
  obtain ⟨i, hi⟩ := List.getElem?_of_mem mN
  rw [← n.eq] at hi
  refine ks_set i (by rw [n.eq]; exact n.nd) (n.loc x m).1 hi (n.loc x m).2 hs fun H z => we_mono (h H z) fun v H1 ⟨L1, z1, σ', p, k⟩ => ⟨L1, z1, ?_⟩
  show nx (σ.set i (some v)) L1
  rw [n.ix hi p]
  exact k
theorem kg_nm {P : L2.St → LL → Prop} (n : Ns X N Nv) (m : x ∈ Nv) (p : Pt N σ x v σ') (h : P σ' L) : kg X H0 M (.Name x pos) v σ L P := by
  obtain ⟨_, i, a, b⟩ := p.ix
  refine kg_name i (by rw [n.eq]; exact n.nd) (n.loc x m).1 (by rw [n.eq]; exact a) (n.loc x m).2 ?_
  rw [b]; exact h
end
/-! ### the same, with what follows -/
def Lq (N : List Str) (σ : L2.St) (x : Str) (P : V → Prop) : Prop := ∃ v, Lk N σ x v ∧ P v
def Pq (N : List Str) (σ : L2.St) (x : Str) (v : V) (P : L2.St → Prop) : Prop := ∃ σ', Pt N σ x v σ' ∧ P σ'
def Aq (L : LL) (a : Addr) (P : HO → Prop) : Prop := ∃ o, At L a o ∧ P o
def Sq (L : LL) (a : Addr) (P : HO → (HO → LL) → Prop) : Prop := ∃ o g, Spot L a o g ∧ P o g
section
variable {N : List Str} {σ : L2.St} {x y : Str} {v : V} {o : Option V} {L : LL} {a : Addr} {h : HO} {q : Addr × HO}
theorem lq_here {P : V → Prop} (k : P v) : Lq (x :: N) (some v :: σ) x P := ⟨v, .here, k⟩
theorem lq_there {P : V → Prop} (k : Lq N σ x P) : Lq (y :: N) (o :: σ) x P := let ⟨v, l, p⟩ := k; ⟨v, .there l, p⟩
theorem pq_here {P : L2.St → Prop} (k : P (some v :: σ)) : Pq (x :: N) (o :: σ) x v P := ⟨_, .here, k⟩
theorem pq_there {P : L2.St → Prop} (k : Pq N σ x v fun σ' => P (o :: σ')) : Pq (y :: N) (o :: σ) x v P := let ⟨σ', l, p⟩ := k; ⟨_, .there l, p⟩
theorem aq_here {P : HO → Prop} (k : P h) : Aq ((a, h) :: L) a P := ⟨h, .here, k⟩
theorem aq_there {P : HO → Prop} (k : Aq L a P) : Aq (q :: L) a P := let ⟨o, l, p⟩ := k; ⟨o, .there l, p⟩
theorem sq_here {P : HO → (HO → LL) → Prop} (k : P h fun o' => (a, o') :: L) : Sq ((a, h) :: L) a P := ⟨_, _, .here, k⟩
theorem sq_there {P : HO → (HO → LL) → Prop} (k : Sq L a fun o g => P o fun o' => q :: g o') : Sq (q :: L) a P := let ⟨o, g, l, p⟩ := k; ⟨o, _, .there l, p⟩
end
section
variable {X : Cx} {H0 : Hp} {M : Addr → Prop} {e : Expr} {σ σ' : L2.St} {L : LL} {Q : V → LL → Prop} {pos pos' : Pos} {nx : L2.St → LL → Prop} {rt : V → LL → Prop} {bk ct : L2.St → LL → Prop} {v : V} {N Nv : List Str} {x : Str}
theorem ke_n (n : Nm X N Nv) (m : x ∈ Nv) (l : Lq N σ x fun v => Q v L) : ke X H0 M (.Name x pos) σ L Q := let ⟨_, a, b⟩ := l; ke_nm n m a b
theorem ks_n (n : Ns X N Nv) (m : x ∈ Nv) (mN : x ∈ N) (hs : swapsWith e (some (.Name x pos')) pos.line X.env = pure false) (h : ke X H0 M e σ L fun v L1 => Pq N σ x v fun σ' => nx σ' L1) : ks X H0 M (.Assign [.Name x pos'] e pos) nx rt bk ct σ L := ks_nm n m hs h mN
theorem kg_n {P : L2.St → LL → Prop} (n : Ns X N Nv) (m : x ∈ Nv) (h : Pq N σ x v fun σ' => P σ' L) : kg X H0 M (.Name x pos) v σ L P := let ⟨_, a, b⟩ := h; kg_nm n m a b
end
/-! ### ways -/
theorem pick_dec {p : Prop} [Decidable p] {A B : Prop} (h1 : p → A) (h2 : ¬ p → B) : Pick (.bl (decide p)) A B := ⟨_, rfl, fun h => h1 (of_decide_eq_true h), fun h => h2 (of_decide_eq_false h)⟩
theorem pick_ndec {p : Prop} [Decidable p] {A B : Prop} (h1 : ¬ p → A) (h2 : p → B) : Pick (.bl (!decide p)) A B := ⟨_, rfl, fun h => h1 (by simpa using h), fun h => h2 (by simpa using h)⟩
theorem pick_T {A B : Prop} (h : A) : Pick (.bl true) A B := ⟨_, rfl, fun _ => h, fun z => Bool.noConfusion z⟩
theorem pick_F {A B : Prop} (h : B) : Pick (.bl false) A B := ⟨_, rfl, fun z => Bool.noConfusion z, fun _ => h⟩
theorem pick_Y {k : Bool} {A B : Prop} (e : k = true) (h : A) : Pick (.bl k) A B := ⟨k, rfl, fun _ => h, fun z => Bool.noConfusion (e.symm.trans z)⟩
theorem pick_N {k : Bool} {A B : Prop} (e : k = false) (h : B) : Pick (.bl k) A B := ⟨k, rfl, (fun z => Bool.noConfusion (e.symm.trans z)), fun _ => h⟩
theorem pick_2 {k : Bool} {A B : Prop} (h1 : k = true → A) (h2 : k = false → B) : Pick (.bl k) A B := ⟨_, rfl, h1, h2⟩
theorem pickB_dec {p : Prop} [Decidable p] {A B : Prop} (h1 : p → A) (h2 : ¬ p → B) : PickB (decide p) A B := ⟨fun h => h1 (of_decide_eq_true h), fun h => h2 (of_decide_eq_false h)⟩
theorem pickB_ndec {p : Prop} [Decidable p] {A B : Prop} (h1 : ¬ p → A) (h2 : p → B) : PickB (!decide p) A B := ⟨fun h => h1 (by simpa using h), fun h => h2 (by simpa using h)⟩
theorem pickB_Y {k : Bool} {A B : Prop} (e : k = true) (h : A) : PickB k A B := ⟨fun _ => h, fun z => Bool.noConfusion (e.symm.trans z)⟩
theorem pickB_N {k : Bool} {A B : Prop} (e : k = false) (h : B) : PickB k A B := ⟨(fun z => Bool.noConfusion (e.symm.trans z)), fun _ => h⟩
theorem pickB_2 {k : Bool} {A B : Prop} (h1 : k = true → A) (h2 : k = false → B) : PickB k A B := ⟨h1, h2⟩
end Xi

/-! ## Fn -/
/-! Defs and their promises, at runs where no text of an object is being made (the guards are known and empty). -/
namespace Xi
open PySem PySem.Spec PyProof.Rows L2 StX

structure Fk (P : Program) (w : World) (K : PySem.W.Frag) (mg : Str → Option Value) (base : Heap) (CX : CXT) (k : Nat) (f : Addr) (fd : FuncData) (ps : List Str) (sp : Sp) : Prop where
  len : ∀ vs H Q E, sp vs H Q E → vs.length = ps.length
  go : ∀ (A : Around) (out : List Env) (s : Shared) (H : Hp) (ag : Args) (us : List Value) (vs : List V) (Q : VK) (E : XK), Room k A → A.guards = some [] → Env0 P w K mg base A out s H → BindsTo s fd ag (ps.zip us) → Vals vs us → sp vs H Q E →
    codeAny (model P w) A (.call (.ref f) ag) (CR CX out P w H s Q E) s
section
variable {P : Program} {w : World} {K : PySem.W.Frag} {mg : Str → Option Value} {base : Heap} {CX : CXT} {j k : Nat} {f : Addr} {fd : FuncData} {ps : List Str} {sp sp' : Sp}
theorem Fk.up (F : Fk P w K mg base CX j f fd ps sp) (h : j ≤ k) : Fk P w K mg base CX k f fd ps sp := ⟨F.len, fun A out s H ag us vs Q E r => F.go A out s H ag us vs Q E (r.mono h)⟩
theorem Fk.weak (F : Fk P w K mg base CX k f fd ps sp) (h : ∀ vs H Q E, sp' vs H Q E → sp vs H Q E) : Fk P w K mg base CX k f fd ps sp' :=
  ⟨fun vs H Q E q => F.len vs H Q E (h _ _ _ _ q), fun A out s H ag us vs Q E r g e b v q => F.go A out s H ag us vs Q E r g e b v (h _ _ _ _ q)⟩
end

/-- a def by its body -/
theorem fk_of {CX : CXT} {P : Program} {w : World} {K : PySem.W.Frag} {mg : Str → Option Value} {base : Heap} {k : Nat} {f : Addr} {fd : FuncData} {x qual : Str} {st : Stmt} {N ps : List Str} {sp : Sp} (F : Fun K x qual st f fd) (S : FnScope N ps (defScope st))
    (len : ∀ vs H Q E, sp vs H Q E → vs.length = ps.length)
    (hb : ∀ (cdv : Value) (A : Around) (out : List Env) (s : Shared) (H : Hp) (vs : List V) (Q : VK) (E : XK), Room k (A.deeper (envOfC qual (defScope st) s.heap.objs.size f cdv)) → A.guards = some [] → sp vs H Q E →
      wb (cxOf CX P w K mg base N qual (defScope st) f cdv A out s H E) (defBody st) { nx := fun _ H' => Q .non H', rt := Q } (start N vs) H) : Fk P w K mg base CX (k + 1) f fd ps sp := by
  obtain ⟨oc, od, kV, doc, pm, an, cdv, ct, osl, efd, lk, hcode⟩ := F.ex
  subst efd
  refine ⟨len, fun A out s H ag us vs Q E room gd e0 bnd rv q => ?_⟩
  have KX : K.In s.heap := e0.mod.kin.keeps fun b o e => (e0.bs b o e).1
  have nolim : s.heap.NoLimit := e0.mod.nolimit.keeps fun b o e => (e0.bs b o e).1
  have known : ∀ y ∈ ps.zip us, (defScope st).names.lookup y.1 = some .local ∨ ((defScope st).names.lookup y.1 = some .cell ∧ ((cellsFrom (s.heap.objs.size + 1) (defScope st).names []).lookup y.1).isSome = true) := by
    rintro ⟨n, v⟩ hy
    have hn := S.par n (List.of_mem_zip hy).1
    exact hn.imp id fun q => ⟨q, PySem.W.cellsFrom_some _ _ _ (.inl q)⟩
  refine codeAny_call_function room.depth (KX f _ lk) rfl S.co S.gen rfl (PySem.W.codeRec_of KX hcode) (bnd _ _ _ _ ?_)
  refine wpAny_newFunctionEnv_cells S.kind known fun env eenv s1 inn => ?_
  subst eenv
  refine ⟨nolim.keeps inn.toInCall.keep, codeAny_func ?_⟩
  have I : Inv (cxOf CX P w K mg base N qual (defScope st) f cdv A out s H E) [] (start N vs) H s1 := inv_start S room.hd e0 (len _ _ _ _ q) rv inn
  refine wpAny_mono (hb cdv A out s H vs Q E (room.deeper _) gd q [] s1 I) (fun fl s2 hs => ?_) fun e s2 hs => hs
  cases fl with
  | ret u => obtain ⟨v, σ2, H2, J, rv2, q2⟩ := hs; exact ⟨v, H2, J.os, J.bare, J.base, J.hok, rv2, q2⟩
  | next => obtain ⟨σ2, H2, J, q2⟩ := hs; exact ⟨.non, H2, J.os, J.bare, J.base, J.hok, rfl, q2⟩
  | brk => obtain ⟨_, _, _, z⟩ := hs; exact z.elim
  | cont => obtain ⟨_, _, _, z⟩ := hs; exact z.elim

/-- from the goals of the layer to the body -/
theorem wb_kb {X : Cx} {M : Addr → Prop} {L : LL} {H : Hp} {σ : L2.St} {Q : VK} {ss : List Stmt} (hs : Hs H M L H) (h : kb X H M ss (fun _ L' => ∀ H', Hs H M L' H' → Q .non H') (fun v L' => ∀ H', Hs H M L' H' → Q v H') (fun _ _ => False) (fun _ _ => False) σ L) :
    wb X ss { nx := fun _ H' => Q .non H', rt := Q } σ H :=
  wb_mono (h H hs) (fun _ _ ⟨_, z, q⟩ => q _ z) (fun _ _ ⟨_, z, q⟩ => q _ z) (fun _ _ ⟨_, z, q⟩ => q.elim) (fun _ _ ⟨_, z, q⟩ => q.elim)

/-! ### things of the module, with what they promise -/
/-- a def of the module called x -/
structure DefT (P : Program) (w : World) (K : PySem.W.Frag) (mg : Str → Option Value) (base : Heap) (CX : CXT) (k : Nat) (x : Str) (sp : Sp) : Prop where
  ex : ∃ f fd ps, Fk P w K mg base CX k f fd ps sp ∧ mg x = some (.ref f) ∧ PySem.W.keepIn K (.ref f) = true ∧ Binds K fd ps []
theorem DefT.up {P : Program} {w : World} {K : PySem.W.Frag} {mg : Str → Option Value} {base : Heap} {CX : CXT} {j k : Nat} {x : Str} {sp : Sp} (D : DefT P w K mg base CX j x sp) (h : j ≤ k) : DefT P w K mg base CX k x sp :=
  let ⟨f, fd, ps, F, a, b, c⟩ := D.ex; ⟨f, fd, ps, F.up h, a, b, c⟩
/-- a family of classes of which each finds the method m at one def -/
structure MethT (P : Program) (w : World) (K : PySem.W.Frag) (mg : Str → Option Value) (base : Heap) (CX : CXT) (k : Nat) (Cs : Addr → Prop) (m : Str) (sp : Sp) : Prop where
  ex : ∃ f fd ps, Fk P w K mg base CX k f fd ps sp ∧ (∀ C, Cs C → Cls K C ∧ Meth K C m f) ∧ Binds K fd ps []
/-- .. whose instances are called -/
structure CallT (P : Program) (w : World) (K : PySem.W.Frag) (mg : Str → Option Value) (base : Heap) (CX : CXT) (k : Nat) (Cs : Addr → Prop) (sp : Sp) : Prop where
  ex : ∃ f fd ps, Fk P w K mg base CX k f fd ps sp ∧ (∀ C, Cs C → CallO K C f) ∧ Binds K fd ps []
/-- .. with a property -/
structure PropT (P : Program) (w : World) (K : PySem.W.Frag) (mg : Str → Option Value) (base : Heap) (CX : CXT) (k : Nat) (Cs : Addr → Prop) (m : Str) (sp : Sp) : Prop where
  ex : ∃ f fd ps, Fk P w K mg base CX k f fd ps sp ∧ (∀ C, Cs C → Cls K C ∧ ∃ p, PropOf K C m p f) ∧ Binds K fd ps []
/-- a class of the module called x, its __init__ with a promise -/
structure MakeT (P : Program) (w : World) (K : PySem.W.Frag) (mg : Str → Option Value) (base : Heap) (CX : CXT) (k : Nat) (x : Str) (C : Addr) (sp : Sp) : Prop where
  ex : ∃ f fd ps, Fk P w K mg base CX k f fd ps sp ∧ mg x = some (.ref C) ∧ Mk K C f ∧ Binds K fd ps []

/-- a body of a def that lets nothing out, running -/
structure Body (X : Cx) (P : Program) (w : World) (K : PySem.W.Frag) (mg : Str → Option Value) (base : Heap) (k : Nat) (N Nv : List Str) (sc : Scope) : Prop where
  prog : X.prog = P
  w : X.w = w
  K : X.K = K
  mg : X.mg = mg
  base : X.base = base
  room : Room k X.A
  gd : X.A.guards = some []
  nm : Nm X N Nv
  scope : X.env.scope = sc
  calm : X.calm = true
  own : PassesOwn (model X.prog X.w) X.A X.env X.xe
section
variable {X : Cx} {P : Program} {w : World} {K : PySem.W.Frag} {mg : Str → Option Value} {base : Heap} {k j : Nat} {N Nv : List Str} {sc : Scope} {CX : CXT} {sp : Sp} {x m : Str} {C : Addr} {Cs : Addr → Prop}
theorem Body.gl (b : Body X P w K mg base k N Nv sc) (h : sc.names.lookup x = some .globalImplicit) : Gl X x := by
  show X.env.scope.names.lookup x = some .globalImplicit
  rw [b.scope]; exact h
theorem Body.no (b : Body X P w K mg base k N Nv sc) {x : Str} {o : Option Value} (h : mg x = o) : X.mg x = o := by rw [b.mg]; exact h
theorem Body.df (b : Body X P w K mg base k N Nv sc) (D : DefT P w K mg base CX j x sp) : DefT X.prog X.w X.K X.mg X.base CX j x sp := by rw [b.prog, b.w, b.K, b.mg, b.base]; exact D
theorem Body.mt (b : Body X P w K mg base k N Nv sc) (D : MethT P w K mg base CX j Cs m sp) : MethT X.prog X.w X.K X.mg X.base CX j Cs m sp := by rw [b.prog, b.w, b.K, b.mg, b.base]; exact D
theorem Body.co (b : Body X P w K mg base k N Nv sc) (D : CallT P w K mg base CX j Cs sp) : CallT X.prog X.w X.K X.mg X.base CX j Cs sp := by rw [b.prog, b.w, b.K, b.mg, b.base]; exact D
theorem Body.pr (b : Body X P w K mg base k N Nv sc) (D : PropT P w K mg base CX j Cs m sp) : PropT X.prog X.w X.K X.mg X.base CX j Cs m sp := by rw [b.prog, b.w, b.K, b.mg, b.base]; exact D
theorem Body.mk' (b : Body X P w K mg base k N Nv sc) (D : MakeT P w K mg base CX j x C sp) : MakeT X.prog X.w X.K X.mg X.base CX j x C sp := by rw [b.prog, b.w, b.K, b.mg, b.base]; exact D
theorem Body.rm (b : Body X P w K mg base k N Nv sc) (h : j ≤ k) : Room j X.A := b.room.mono h
end
/-- a def that lets nothing out, by its body -/
theorem fk_body {P : Program} {w : World} {K : PySem.W.Frag} {mg : Str → Option Value} {base : Heap} {k : Nat} {f : Addr} {fd : FuncData} {x qual : Str} {st : Stmt} {ss : List Stmt} {N Nv ps : List Str} {sp : Sp} (F : Fun K x qual st f fd) (S : FnScope N ps (defScope st))
    (l : ∀ x ∈ Nv, (defScope st).names.lookup x = some .local ∨ (defScope st).names.lookup x = some .cell) (p : ∀ x ∈ Nv, (x == ("__debug__" : Str)) = false ∧ (x == ("__classdict__" : Str)) = false) (eb : defBody st = ss)
    (len : ∀ vs H Q E, sp vs H Q E → vs.length = ps.length)
    (hb : ∀ (X : Cx), Body X P w K mg base k N Nv (defScope st) → Ns X N Nv → ∀ (H : Hp) (vs : List V) (Q : VK) (E : XK), sp vs H Q E → wb X ss { nx := fun _ H' => Q .non H', rt := Q } (start N vs) H) : Fk P w K mg base CX0 (k + 1) f fd ps sp :=
  fk_of F S len fun cdv A out s H vs Q E room gd q => by
    rw [eb]
    have bd : Body (cxOf CX0 P w K mg base N qual (defScope st) f cdv A out s H E).nox P w K mg base k N Nv (defScope st) := ⟨rfl, rfl, rfl, rfl, rfl, room, gd, ⟨rfl, fun x m => (l x m).elim .inl fun z => .inr (.inl z), p⟩, rfl, rfl, PassesOwn.never⟩
    exact wb_of (PSs.nox pb_wb) (hb _ bd ⟨rfl, S.nd, fun x m => ⟨l x m, .inl rfl⟩⟩ H vs Q E q)
section
variable {X : Cx} {CX : CXT} {k : Nat} {f C : Addr} {fd : FuncData} {ps : List Str} {sp : Sp} {dvs : List V} {ds : List Value} {E : XK} {x m : Str} {p pos apos : Pos} {e o : Expr} {es : List Expr} {ta : TE} {t : TA}
/-- the callee runs: the call itself -/
theorem fk_code {pins : List (Addr × Obj)} {σ : L2.St} {H : Hp} {s : Shared} {Q : VK} {us : List Value} {vs : List V} (F : Fk X.prog X.w X.K X.mg X.base CX k f fd ps sp) (hr : Room k X.A) (gd : X.A.guards = some []) (hb : Binds X.K fd ps ds) (hd : Vals dvs ds) (hx : Passes CX X E)
    (I : Inv X pins σ H s) (r : Vals vs us) (h : sp (vs ++ dvs) H Q E) : codeAny (model X.prog X.w) X.A (.call (.ref f) ⟨us, []⟩) (fun res s2 => match res with | .ok (.ret u) => EP X pins σ Q u s2 | .ok _ => False | .error er => X.xe er s2) s := by
  have rr : Vals (vs ++ dvs) (us ++ ds) := r.append hd
  have ll : (us ++ ds).length = ps.length := rr.length.symm.trans (F.len _ _ _ _ h)
  refine codeAny_mono (F.go X.A X.stack s H ⟨us, []⟩ (us ++ ds) (vs ++ dvs) Q E hr gd I.env0 (hb s us I.kIn ll) rr h) fun res s2 hq => ?_
  rcases res with er | fl
  · exact hx pins σ H s er s2 I hq
  · cases fl with
    | ret u => exact I.after hq
    | next => exact hq.elim
    | brk => exact hq.elim
    | cont => exact hq.elim
/-- the callee runs -/
theorem fk_run {pins : List (Addr × Obj)} {σ : L2.St} {H : Hp} {s : Shared} {Q : VK} {us : List Value} {vs : List V} (F : Fk X.prog X.w X.K X.mg X.base CX k f fd ps sp) (hr : Room k X.A) (gd : X.A.guards = some []) (hb : Binds X.K fd ps ds) (hd : Vals dvs ds) (hx : Passes CX X E)
    (I : Inv X pins σ H s) (r : Vals vs us) (h : sp (vs ++ dvs) H Q E) : wpAny (model X.prog X.w) X.A (call (.ref f) us) (EP X pins σ Q) X.xe s := by
  refine wpAny_call (codeAny_mono (fk_code F hr gd hb hd hx I r h) fun res s2 hq => ?_)
  rcases res with er | fl
  · exact hq
  · cases fl with
    | ret u => exact hq
    | next => exact hq.elim
    | brk => exact hq.elim
    | cont => exact hq.elim
/-- .. with keywords -/
theorem fk_runK {ks : List Str} {g : List Value → List Value → List Value} {gV : List V → List V → List V} {pins : List (Addr × Obj)} {σ : L2.St} {H : Hp} {s : Shared} {Q : VK} {us ws : List Value} {vs zs : List V} (F : Fk X.prog X.w X.K X.mg X.base CX k f fd ps sp) (hr : Room k X.A) (gd : X.A.guards = some [])
    (hb : KBinds X.K fd ps ks g gV) (hx : Passes CX X E) (I : Inv X pins σ H s) (r : Vals vs us) (rz : Vals zs ws) (h : sp (gV vs zs) H Q E) : wpAny (model X.prog X.w) X.A (call (.ref f) us (ks.zip ws)) (EP X pins σ Q) X.xe s := by
  have rr := hb.rel r rz
  have ll : (g us ws).length = ps.length := rr.length.symm.trans (F.len _ _ _ _ h)
  refine wpAny_call (codeAny_mono (F.go X.A X.stack s H ⟨us, ks.zip ws⟩ (g us ws) (gV vs zs) Q E hr gd I.env0 (hb.to s us ws I.kIn ll) rr h) fun res s2 hq => ?_)
  rcases res with er | fl
  · exact hx pins σ H s er s2 I hq
  · cases fl with
    | ret u => exact I.after hq
    | next => exact hq.elim
    | brk => exact hq.elim
    | cont => exact hq.elim
end

section
variable {X : Cx} {CX : CXT} {k : Nat} {f C : Addr} {Cs : Addr → Prop} {sp : Sp} {E : XK} {x m : Str} {p pos apos : Pos} {e o fe : Expr} {es : List Expr} {H0 : Hp} {M : Addr → Prop} {L : LL} {σ : L2.St} {Q : V → LL → Prop}
/-- a promise, asked at what is known -/
def rs (H0 : Hp) (M : Addr → Prop) (sp : Sp) (E : XK) (xs : List V) (L : LL) (Q : V → LL → Prop) : Prop := ∀ H, Hs H0 M L H → sp xs H (up H0 M Q) E
theorem ke_call (D : DefT X.prog X.w X.K X.mg X.base CX k x sp) (hr : Room k X.A) (gd : X.A.guards = some []) (hx : Passes CX X E) (hg : Gl X x) (he : starEach (e :: es) X.env = (false, eval e X.env) :: starEach es X.env) (hpl : (backTo pos (starEach es X.env)).any (·.1) = false)
    (h : ka X H0 M (e :: es) σ L fun vs L1 => rs H0 M sp E vs L1 Q) (hdb : (x == ("__debug__" : Str)) = false := by decide) : ke X H0 M (.Call (.Name x p) (e :: es) [] pos) σ L Q := fun H z pins s I => by
  obtain ⟨f, fd, ps, F, hm, hk, hb⟩ := D.ex
  refine wpAny_Call_Name_kw (ld_glob I hg hm ?_ hdb)
  refine PySem.W.callWith_K (h₀ := X.base) I.ok.mod.kin hk (thn (h H z pos pins s I) fun us s1 ⟨vs, H1, I1, r, L1, z1, q⟩ => ⟨I1.kIn, ?_⟩) he hpl
  have q2 := q H1 z1
  rw [← List.append_nil vs] at q2
  exact fk_run F hr gd hb .nil hx I1 r q2
theorem ke_call0 (D : DefT X.prog X.w X.K X.mg X.base CX k x sp) (hr : Room k X.A) (gd : X.A.guards = some []) (hx : Passes CX X E) (hg : Gl X x)
    (h : rs H0 M sp E [] L Q) (hdb : (x == ("__debug__" : Str)) = false := by decide) : ke X H0 M (.Call (.Name x p) [] [] pos) σ L Q := fun H z pins s I => by
  obtain ⟨f, fd, ps, F, hm, hk, hb⟩ := D.ex
  refine wpAny_Call_Name_kw (ld_glob I hg hm ?_ hdb)
  exact PySem.W.callWith_K0 I.kIn hk (fk_run (us := []) (vs := []) F hr gd hb .nil hx I .nil (h H z))
/-- o.m(e, ..), the class of o one of the family -/
theorem ke_meth {pl : Sem Bool} (D : MethT X.prog X.w X.K X.mg X.base CX k Cs m sp) (hr : Room k X.A) (gd : X.A.guards = some []) (hx : Passes CX X E)
    (he : starEach (e :: es) X.env = (false, eval e X.env) :: starEach es X.env) (hpl : (backTo pos (starEach es X.env)).any (·.1) = false)
    (ht : eval (.Call (.Attribute o m apos) (e :: es) [] pos) X.env = (do
      let ov ← eval o X.env
      standAt apos.atName
      let (f, first) ← holding [ov] (getMethod ov m pl)
      callWith pos f first (backTo pos (starEach (e :: es) X.env)) (backToKw pos (keywordEach [] X.env))))
    (h : ke X H0 M o σ L fun y L1 => ∃ a C dx fs, y = .ref a ∧ At L1 a (.ins C dx fs) ∧ Cs C ∧ fs.lookup m = none ∧ ka X H0 M (e :: es) σ L1 fun vs L2 => rs H0 M sp E (.ref a :: vs) L2 Q) :
    ke X H0 M (.Call (.Attribute o m apos) (e :: es) [] pos) σ L Q := fun H z pins s I => by
  obtain ⟨f, fd, ps, F, hc, hb⟩ := D.ex
  refine PySem.W.methodCall_KW (pl := pl) (thn (h H z pins s I) fun u s1 ⟨y, H1, I1, ry, L1, z1, a, C, dx, fs, ey, ia, cC, nl, q⟩ => ?_) ht
  subst ey
  obtain rfl : u = Value.ref a := ry
  obtain ⟨c1, c2⟩ := hc C cC
  refine getmeth_ok I1 (z1.get ia) c1 c2 nl ?_
  refine PySem.W.callWith_K (first := [.ref a]) (h₀ := X.base) I.ok.mod.kin c2.kp (thn (q H1 z1 pos pins s1 I1) fun us s2 ⟨vs, H2, I2, r, L2, z2, q2⟩ => ⟨I2.kIn, ?_⟩) he hpl
  have q3 := q2 H2 z2
  rw [← List.append_nil (V.ref a :: vs)] at q3
  exact fk_run (us := .ref a :: us) (vs := .ref a :: vs) F hr gd hb .nil hx I2 (.cons rfl r) q3
theorem ke_meth0 {pl : Sem Bool} (D : MethT X.prog X.w X.K X.mg X.base CX k Cs m sp) (hr : Room k X.A) (gd : X.A.guards = some []) (hx : Passes CX X E)
    (ht : eval (.Call (.Attribute o m apos) [] [] pos) X.env = (do
      let ov ← eval o X.env
      standAt apos.atName
      let (f, first) ← holding [ov] (getMethod ov m pl)
      callWith pos f first (backTo pos (starEach [] X.env)) (backToKw pos (keywordEach [] X.env))))
    (h : ke X H0 M o σ L fun y L1 => ∃ a C dx fs, y = .ref a ∧ At L1 a (.ins C dx fs) ∧ Cs C ∧ fs.lookup m = none ∧ rs H0 M sp E [.ref a] L1 Q) :
    ke X H0 M (.Call (.Attribute o m apos) [] [] pos) σ L Q := fun H z pins s I => by
  obtain ⟨f, fd, ps, F, hc, hb⟩ := D.ex
  refine PySem.W.methodCall_KW (pl := pl) (thn (h H z pins s I) fun u s1 ⟨y, H1, I1, ry, L1, z1, a, C, dx, fs, ey, ia, cC, nl, q⟩ => ?_) ht
  subst ey
  obtain rfl : u = Value.ref a := ry
  obtain ⟨c1, c2⟩ := hc C cC
  refine getmeth_ok I1 (z1.get ia) c1 c2 nl ?_
  exact PySem.W.callWith_K0 (first := [.ref a]) I1.kIn c2.kp (fk_run (us := [.ref a]) (vs := [.ref a]) F hr gd hb .nil hx I1 (.cons rfl .nil) (q H1 z1))
/-- f(e, ..), f an instance of the family -/
theorem ke_callO (D : CallT X.prog X.w X.K X.mg X.base CX k Cs sp) (hr : Room k X.A) (gd : X.A.guards = some []) (hx : Passes CX X E)
    (ht : eval (.Call fe (e :: es) [] pos) X.env = (do callWith pos (← eval fe X.env) [] (backTo pos (starEach (e :: es) X.env)) (backToKw pos (keywordEach [] X.env))))
    (he : starEach (e :: es) X.env = (false, eval e X.env) :: starEach es X.env) (hpl : (backTo pos (starEach es X.env)).any (·.1) = false)
    (h : ke X H0 M fe σ L fun y L1 => ∃ a, y = .ref a ∧ ka X H0 M (e :: es) σ L1 fun vs L2 => (∃ C dx fs, At L2 a (.ins C dx fs) ∧ Cs C) ∧ rs H0 M sp E (.ref a :: vs) L2 Q) :
    ke X H0 M (.Call fe (e :: es) [] pos) σ L Q := fun H z pins s I => by
  obtain ⟨f, fd, ps, F, hc, hb⟩ := D.ex
  refine Call_ (thn (h H z pins s I) fun u s1 ⟨y, H1, I1, ry, L1, z1, a, ey, q⟩ => ?_) ht
  subst ey
  obtain rfl : u = Value.ref a := ry
  refine callO_with (thn (q H1 z1 pos pins s1 I1) fun us s2 ⟨vs, H2, I2, r, L2, z2, ⟨C, dx, fs, ia, cC⟩, q2⟩ => ?_) he hpl
  obtain ⟨ox, od, J, hd⟩ := insC_at I2 (.inr ⟨dx, fs, z2.get ia⟩)
  have c := hc C cC
  have q3 := q2 H2 z2
  rw [← List.append_nil (V.ref a :: vs)] at q3
  refine ⟨⟨C, ox, od, J, hd⟩, wpAny_call (PySem.W.kco_code I2.kIn J hd c.at_ c.fn c.fi (codeAny_mono (fk_code (us := .ref a :: us) (vs := .ref a :: vs) F hr gd hb .nil hx I2 (.cons rfl r) q3) fun res s3 hq => ?_))⟩
  rcases res with er | fl
  · exact hq
  · cases fl with
    | ret u => exact hq
    | next => exact hq.elim
    | brk => exact hq.elim
    | cont => exact hq.elim
/-- C(e, ..): a new instance, then __init__ -/
theorem ke_make (D : MakeT X.prog X.w X.K X.mg X.base CX k x C sp) (hr : Room (k + 1) X.A) (gd : X.A.guards = some []) (hx : Passes CX X E) (hg : Gl X x) (he : starEach (e :: es) X.env = (false, eval e X.env) :: starEach es X.env) (hpl : (backTo pos (starEach es X.env)).any (·.1) = false)
    (h : ka X H0 M (e :: es) σ L fun vs L1 => ∀ y dy, H0 y = none → H0 dy = none → rs H0 M sp E (.ref y :: vs) ((y, .ins C dy []) :: (dy, .own y) :: L1) fun v L2 => v = .non ∧ Q (.ref y) L2)
    (hdb : (x == ("__debug__" : Str)) = false := by decide) : ke X H0 M (.Call (.Name x p) (e :: es) [] pos) σ L Q := fun H z pins s I => by
  obtain ⟨f, fd, ps, F, hm, mk, hb⟩ := D.ex
  refine wpAny_Call_Name_kw (ld_glob I hg hm ?_ hdb)
  refine PySem.W.callWith_K (h₀ := X.base) I.ok.mod.kin mk.kp (thn (h H z pos pins s I) fun us s1 ⟨vs, H1, I1, r, L1, z1, q⟩ => ⟨I1.kIn, ?_⟩) he hpl
  have n1 : H1 (s1.heap.objs.size + 1) = none := I1.hok.fresh (Nat.le_succ _)
  have n0 : H1 s1.heap.objs.size = none := I1.hok.fresh (Nat.le_refl _)
  have z2 := (z1.new (o := .own (s1.heap.objs.size + 1)) n0).new (o := .ins C s1.heap.objs.size []) (p := s1.heap.objs.size + 1) (by rw [upd_ne (Nat.succ_ne_self _)]; exact n1)
  have q2 := q (s1.heap.objs.size + 1) s1.heap.objs.size (z1.fresh n1) (z1.fresh n0) _ z2
  have I2 := Inv.made (C := C) I1
  have rr : Vals (V.ref (s1.heap.objs.size + 1) :: vs) (Value.ref (s1.heap.objs.size + 1) :: us) := .cons rfl r
  have ll : ((Value.ref (s1.heap.objs.size + 1) :: us) ++ []).length = ps.length := by rw [List.append_nil]; exact rr.length.symm.trans (F.len _ _ _ _ q2)
  have bb := hb { s1 with heap := (s1.heap.push PySem.W.emptyDict).push (PySem.W.instObj C s1.heap.objs.size) } (Value.ref (s1.heap.objs.size + 1) :: us) I2.kIn ll
  rw [List.append_nil] at bb
  have gd2 : (X.A.under (.builtin "type.__call__" ⟨.ref C :: us, []⟩)).guards = some [] := by
    show pushGuards (Code.builtin "type.__call__" ⟨.ref C :: us, []⟩).guards X.A.guards = some []
    rw [gd]
    simp [Code.guards, Code.isGuard, guardIds, pushGuards]
  refine wpAny_call (make_map (f := f) I1.kIn mk.makes mk.init (beq_iff_eq.mp mk.fn) (codeAny_mono (F.go _ X.stack _ _ _ _ _ _ E (hr.make C us []) gd2 (I2.env0.make C us []) bb rr q2) fun res s2 hq => ?_))
  rcases res with er | fl
  · exact hx pins σ _ _ er s2 I2 hq
  · cases fl with
    | ret u =>
      obtain ⟨v, H', I3, rv, L3, z3, ev, q3⟩ := I2.after hq
      subst ev
      exact ⟨rv, ⟨V.ref (s1.heap.objs.size + 1), H', I3, rfl, L3, z3, q3⟩⟩
    | next => exact hq.elim
    | brk => exact hq.elim
    | cont => exact hq.elim
/-- e.f, a property -/
theorem ke_prop {f : Str} (D : PropT X.prog X.w X.K X.mg X.base CX k Cs f sp) (hr : Room (k + 1) X.A) (gd : X.A.guards = some []) (hx : Passes CX X.nox E) (hab : attributeBase e f X.env (eval e X.env) = eval e X.env)
    (h : ke X H0 M e σ L fun y L1 => ∃ a C dx fs, y = .ref a ∧ At L1 a (.ins C dx fs) ∧ Cs C ∧ rs H0 M sp E [.ref a] L1 Q) : ke X H0 M (.Attribute e f pos) σ L Q := fun H z pins s I => by
  obtain ⟨g, fd, ps, F, hc, hb⟩ := D.ex
  refine attr_of hab (thn (h H z pins s I) fun u s1 ⟨y, H1, I1, ry, L1, z1, a, C, dx, fs, ey, ia, cC, q⟩ => ?_)
  subst ey
  obtain rfl : u = Value.ref a := ry
  obtain ⟨c, p, hp⟩ := hc C cC
  obtain ⟨mA, O, _, _, _, _⟩ := ins_get I1.hok (z1.get ia)
  obtain ⟨od, J, _⟩ := O.look
  obtain ⟨rest, hrec⟩ := hp.rec_
  have I2 := I1.tok (s1.toks + 1)
  have q2 := q H1 z1
  have ll : ([Value.ref a] ++ []).length = ps.length := F.len _ _ _ _ q2
  have bb := hb { s1 with toks := s1.toks + 1 } [.ref a] I2.kIn ll
  rw [List.append_nil] at bb
  have hcl : (PySem.W.clsIn X.K C).isSome = true := by
    obtain ⟨cd, hcd, _⟩ := PySem.W.any_some c.hd
    rw [hcd]; rfl
  refine PySem.W.get_bind I1.kIn J (PySem.W.plainGet_of (c.get f)).1 (PySem.W.findObj_data hcl hp.at_ hp.get hp.tak) (PySem.W.plainGet_of (c.get f)).2 (wpAny_call (PySem.W.prop_get (s := { s1 with toks := s1.toks + 1 }) I1.kIn hrec ?_))
  refine codeAny_mono (F.go X.A.in1 X.stack { s1 with toks := s1.toks + 1 } H1 ⟨[.ref a], []⟩ [.ref a] [.ref a] _ E hr.in1 gd I2.env0.in1 bb (.cons rfl .nil) q2) fun res s2 hq => ?_
  rcases res with er | fl
  · exact (hx pins σ H1 { s1 with toks := s1.toks + 1 } er s2 (I2.wish _) hq).elim
  · cases fl with
    | ret u =>
      obtain ⟨v, H', I3, rv, q3⟩ := I2.after hq
      show wpAny _ _ (handedOut u) _ _ _
      rw [PySem.W.handedOut_of (handed_of rv)]
      exact wpAny_pure ⟨v, H', I3, rv, q3⟩
    | next => exact hq.elim
    | brk => exact hq.elim
    | cont => exact hq.elim
/-- e.f, an attribute of the instance -/
theorem ke_fld {f : Str} (hb : attributeBase e f X.env (eval e X.env) = eval e X.env) (h : ke X H0 M e σ L fun y L1 => ∃ a C dx fs v, y = .ref a ∧ At L1 a (.ins C dx fs) ∧ Cls X.K C ∧ NoAttr X.K C f ∧ fs.lookup f = some v ∧ Q v L1) : ke X H0 M (.Attribute e f pos) σ L Q := fun H z =>
  we_of (pe_fld pe_we hb) (we_mono (h H z) fun y H1 ⟨L1, z1, a, C, dx, fs, v, ey, ia, c, n, l, q⟩ => ⟨a, C, dx, fs, v, ey, z1.get ia, c, n, l, L1, z1, q⟩)
/-- e.f, a constant of the class -/
theorem ke_con {f : Str} (hb : attributeBase e f X.env (eval e X.env) = eval e X.env) (h : ke X H0 M e σ L fun y L1 => ∃ a C dx fs v u, y = .ref a ∧ At L1 a (.ins C dx fs) ∧ Cls X.K C ∧ Con X.K C f v u ∧ fs.lookup f = none ∧ Q v L1) : ke X H0 M (.Attribute e f pos) σ L Q := fun H z =>
  we_of (pe_con pe_we hb) (we_mono (h H z) fun y H1 ⟨L1, z1, a, C, dx, fs, v, u, ey, ia, c, n, l, q⟩ => ⟨a, C, dx, fs, v, u, ey, z1.get ia, c, n, l, L1, z1, q⟩)
/-- o.f = e -/
theorem ks_fld {f : Str} {pos' : Pos} {value : Expr} {nx : L2.St → LL → Prop} {rt : V → LL → Prop} {bk ct : L2.St → LL → Prop} (hs : swapsWith value (some (.Attribute o f pos')) pos.line X.env = pure false)
    (h : ke X H0 M value σ L fun v L1 => ke X H0 M o σ L1 fun y L2 => ∃ a C dx fs g, y = .ref a ∧ Spot L2 a (.ins C dx fs) g ∧ (H0 a = none ∨ M a) ∧ Cls X.K C ∧ NoAttr X.K C f ∧ fs.length < 1000 ∧ nx σ (g (.ins C dx (putF f v fs)))) : ks X H0 M (.Assign [.Attribute o f pos'] value pos) nx rt bk ct σ L :=
  ks_of (ps_fld pe_we pe_we hs) fun H z => we_mono (h H z) fun v H1 ⟨L1, z1, k⟩ => we_mono (k H1 z1) fun y H2 ⟨L2, z2, a, C, dx, fs, g, ey, sp, c, c1, n1, l, q⟩ => ⟨a, C, dx, fs, ey, z2.at_ _ sp.mem, c1, n1, l, _, z2.put sp c, q⟩
end

/-! ### the law's own call -/
theorem law_go {P : Program} {w : World} {K : PySem.W.Frag} {mg mb : Str → Option Value} {CX : CXT} {k : Nat} {fa a : Addr} {fd : FuncData} {x : Str} {sp : Sp} {s1 : Shared} {its : List Value} {ns : List Int}
    (KX : K.In s1.heap) (hns : s1.heap.Ns mainGlobals mg) (hblt : s1.heap.Ns builtinsNs mb) (hbb : ∀ x : Str, x ≠ "__name__" → mb x = bootBuiltins x) (nolim : s1.heap.NoLimit) (hg : s1.gens = #[])
    (ha : s1.heap.get? a = some { cls := .type "list", data := .seq its.toArray }) (hi : IntsAre its ns) (hl : ns.length ≤ sizeLine) (hr : Room k callerA)
    (F : ∀ base : Heap, K.In base → base.Ns mainGlobals mg → Fk P w K mg base CX k fa fd [x] sp) (bnd : ∀ (s : Shared) (u : Value), BindsTo s fd ⟨[u], []⟩ [(x, u)])
    (hsp : ∀ H : Hp, Only H → SqL K H a (ns.map V.int) → sp [.ref a] H (fun v _ => v = .bl true) fun _ _ _ => False)
    (hCX : ∀ H e s', CX [] H s1 (fun _ _ _ => False) e s' → False) :
    codeAny (model P w) callerA (.call (.ref fa) ⟨[.ref a], []⟩) (fun res s2 => res = .ok (.ret (.bool true)) ∧ OldK s1.heap s2.heap ∧ s2.os = s1.os ∧ AllBare s2.gens) s1 := by
  have rv := vals_ints hi
  have size := hi.length
  have main : ∀ H : Hp, Only H → SqL K H a (ns.map V.int) → HOk P w H s1.heap → (∀ b, H b ≠ none → b = a) → (H a ≠ none → K.lookup a = none) →
      codeAny (model P w) callerA (.call (.ref fa) ⟨[.ref a], []⟩) (fun res s2 => res = .ok (.ret (.bool true)) ∧ OldK s1.heap s2.heap ∧ s2.os = s1.os ∧ AllBare s2.gens) s1 := by
    intro H only sq ok onlyA notK
    have left : ∀ {b : Addr} {o : Obj}, s1.heap.get? b = some o → H b = none → (hidT s1.heap H).get? b = some o := fun e n => hidT_get e n
    have dictN : ∀ {b : Addr} {o : Obj} {es : Array DictEntry} {ep : Nat}, s1.heap.get? b = some o → o.data = .dict es ep → H b = none := fun {b o es ep} e d => by
      cases q : H b with
      | none => rfl
      | some u =>
        obtain rfl : b = a := onlyA b (by rw [q]; exact fun z => nomatch z)
        rw [ha] at e
        cases e
        exact absurd (show Data.seq its.toArray _ = Data.dict es ep from d) (fun z => nomatch z)
    have nsB : ∀ {b : Addr} {m : Str → Option Value}, s1.heap.Ns b m → (hidT s1.heap H).Ns b m := fun {b m} ⟨o, es, ep, e, d, r⟩ => ⟨o, es, ep, left e (dictN e d), d, r⟩
    have kB : K.In (hidT s1.heap H) := fun b o e => left (KX b o e) (by
      cases q : H b with
      | none => rfl
      | some u =>
        obtain rfl : b = a := onlyA b (by rw [q]; exact fun z => nomatch z)
        rw [notK (by rw [q]; exact fun z => nomatch z)] at e
        cases e)
    obtain ⟨mc, lim1, lim2⟩ := nolim
    have e0 : Env0 P w K mg (hidT s1.heap H) callerA [] s1 H := ⟨rfl, ⟨kB, nsB hns, ⟨mb, nsB hblt, hbb⟩, ⟨mc, nsB lim1, lim2⟩⟩, fun b o e => of_hidT e, Nat.le_of_eq (hidT_size _ _), trivial, fun b hb => (nomatch hb), ok, .of_eq hg⟩
    refine codeAny_mono ((F _ kB (nsB hns)).go callerA [] s1 H ⟨[.ref a], []⟩ [.ref a] [.ref a] _ _ hr rfl e0 (bnd s1 (.ref a)) (.cons rfl .nil) (hsp H only sq)) fun res s2 h => ?_
    rcases res with er | fl
    · exact (hCX H er s2 h).elim
    · cases fl with
      | next => exact h.elim
      | brk => exact h.elim
      | cont => exact h.elim
      | ret u =>
        obtain ⟨v, H2, os, bare, un, ok2, r2, q⟩ := h
        obtain rfl : v = .bl true := q
        obtain rfl : u = Value.bool true := r2
        refine ⟨rfl, OldK.of_keep fun b o e => ?_, os, bare⟩
        cases q : H b with
        | none => exact un.keep b o e q (fun z => nomatch z) (fun z => nomatch z)
        | some u =>
          rcases only b with z | ⟨ob, xs, z⟩
          · rw [q] at z; cases z
          · obtain ⟨e1, _⟩ := ok b _ z
            obtain ⟨e2, _⟩ := ok2 b _ (un.frzs b ob _ z)
            rw [e] at e1
            cases e1
            exact e2
  cases hk : K.lookup a with
  | some o =>
    have e := KX a o hk
    rw [ha] at e
    cases e
    exact main (fun _ => none) (fun _ => .inl rfl) (.inr ⟨_, its.toArray, _, hk, rfl, rfl, rfl, (by rw [List.size_toArray, size]; exact hl), (by simpa using rv)⟩) (fun b u z => nomatch (show (none : Option HO) = some u from z)) (fun b z => absurd rfl z) fun z => absurd rfl z
  | none =>
    let H : Hp := fun b => if b = a then some (.frz { cls := .type "list", data := .seq its.toArray } (.lst (ns.map V.int))) else none
    have at_ : H a = some (.frz { cls := .type "list", data := .seq its.toArray } (.lst (ns.map V.int))) := if_pos rfl
    have off : ∀ b, b ≠ a → H b = none := fun b hb => if_neg hb
    refine main H (fun b => ?_) (.inl (.inr ⟨_, at_⟩)) (fun b u z => ?_) (fun b z => ?_) fun _ => hk
    · by_cases hb : b = a
      · subst hb; exact .inr ⟨_, _, at_⟩
      · exact .inl (off b hb)
    · by_cases hb : b = a
      · subst hb
        rw [at_] at z
        cases z
        exact ⟨ha, by rw [List.length_map]; exact hl, its, _, rv, ha⟩
      · rw [off b hb] at z; cases z
    · exact Classical.byContradiction fun hb => z (off b hb)

theorem law_walk {l : PySem.W.OpenLaw} {n k : Nat} {q : Program} {loose : List Str} {XP : (Str → Option Value) → Heap → Prop} {YP : World → Heap → Prop} {d : DefRec} {K : Params → PySem.W.Frag} {CX : World → CXT} {sp : World → Sp} {x : Str}
    (hn : l.most = some n) (hn2 : n ≤ sizeLine) (hdf : d.params.defaults = []) (hr : Room k callerA)
    (hY : ∀ (w : World) (h : Heap), YP w h → (K w.params).In h)
    (F : ∀ (w : World) (mg : Str → Option Value) (fa : Addr) (h : Heap), (K w.params).In h → h.Ns mainGlobals mg → mg d.name = some (.ref fa) →
      ∃ fd : FuncData, (∀ (s : Shared) (u : Value), BindsTo s fd ⟨[u], []⟩ [(x, u)]) ∧
        ∀ base : Heap, (K w.params).In base → base.Ns mainGlobals mg → Fk l.prog w (K w.params) mg base (CX w) k fa fd [x] (sp w))
    (hsp : ∀ (w : World) (H : Hp) (a : Addr) (ns : List Int), ns.length ≤ n → SqL (K w.params) H a (ns.map V.int) → sp w [.ref a] H (fun v _ => v = .bl true) fun _ _ _ => False)
    (hCX : ∀ (w : World) (H : Hp) (s : Shared) (e : Value) (s' : Shared), CX w [] H s (fun _ _ _ => False) e s' → False) :
    PySem.W.WalkO q loose XP YP l.row.toRowW d [] (fun f vs => PySem.call f vs) := by
  refine Att.attach_call hn hdf fun w s₀ s₁ mg mb fa o pm cd doc a vs ns G Y ho hd hcd hmg hobj hints hlen hg => ?_
  obtain ⟨fd, bnd, FF⟩ := F w mg fa _ (hY w _ Y) G.T.g hmg
  exact law_go (hY w _ Y) G.T.g G.T.b G.T.builtins G.T.nolimit hg hobj hints (Nat.le_trans hlen hn2) hr FF bnd (fun H _ sq => hsp w H a ns hlen sq) fun H e s' => hCX w H s₁ e s'
end Xi

/-! ## More -/
namespace Xi
open PySem PySem.Spec PyProof.Rows L2

theorem wg_mono {X : Cx} {tg : Expr} {v : V} {σ : L2.St} {H : Hp} {P P' : L2.St → Hp → Prop} (h : wg X tg v σ H P) (k : ∀ σ H, P σ H → P' σ H) : wg X tg v σ H P' := fun pins s u I r => thn (h pins s u I r) fun _ _ ⟨σ', H', I', q⟩ => ⟨σ', H', I', k _ _ q⟩
def wi (X : Cx) (tg iter : Expr) : TI := fun σ H R => ∀ (pins : List (Addr × Obj)) (s : Shared), Inv X pins σ H s → wpAny (model X.prog X.w) X.A (eval iter X.env) (fun v s1 => wpAny (model X.prog X.w) X.A (pyIter v) (PIE X pins σ tg R) X.xe s1) X.xe s
theorem pi_wi {X : Cx} {tg iter : Expr} : PI X tg iter (wi X tg iter) := ⟨fun pins s _ _ _ I h => h pins s I⟩
theorem wi_of {X : Cx} {tg iter : Expr} {t : TI} {σ : L2.St} {H : Hp} {R : It → Hp → Prop} (p : PI X tg iter t) (h : t σ H R) : wi X tg iter σ H R := fun pins s I => p.run pins s σ H R I h
theorem wi_mono {X : Cx} {tg iter : Expr} {σ : L2.St} {H : Hp} {R R' : It → Hp → Prop} (h : wi X tg iter σ H R) (k : ∀ J H, R J H → R' J H) : wi X tg iter σ H R' := fun pins s I =>
  thn (h pins s I) fun v s1 h1 => thn h1 fun itv s2 ⟨it, fp, tn, J, H', e, I2, T, st, f, q⟩ => ⟨it, fp, tn, J, H', e, I2, T, st, f, k _ _ q⟩
def upI (H0 : Hp) (M : Addr → Prop) (P : It → LL → Prop) : It → Hp → Prop := fun J H => ∃ L, Hs H0 M L H ∧ P J L
def ki (X : Cx) (H0 : Hp) (M : Addr → Prop) (tg iter : Expr) (σ : L2.St) (L : LL) (P : It → LL → Prop) : Prop := ∀ H, Hs H0 M L H → wi X tg iter σ H (upI H0 M P)
/-- what a walk gives, while G is known -/
structure WalkL (H0 : Hp) (M : Addr → Prop) (J : It) (n : Nat) (G : LL → Prop) (Y : Nat → LL → V → LL → Prop) : Prop where
  goes : ∀ i L H, i < n → G L → Hs H0 M L H → J.go i H
  stops : ∀ L H, G L → Hs H0 M L H → J.stop n H
  yields : ∀ i L H x H', i < n → G L → Hs H0 M L H → J.yld i H x H' → ∃ L', Hs H0 M L' H' ∧ Y i L x L'
/-- a walk of n turns: its source's facts G, what it gives Y -/
def Walks (H0 : Hp) (M : Addr → Prop) (n : Nat) (G : LL → Prop) (Y : Nat → LL → V → LL → Prop) (J : It) : Prop := WalkL H0 M J n G Y

section
variable {X : Cx} {H0 : Hp} {M : Addr → Prop} {e a b c o : Expr} {es : List Expr} {σ : L2.St} {L L' : LL} {Q : V → LL → Prop} {QT : Bool → LL → Prop} {QA : List V → LL → Prop} {pos pos' p apos : Pos} {ss rest body : List Stmt} {nx : L2.St → LL → Prop} {rt : V → LL → Prop} {bk ct : L2.St → LL → Prop} {st : Stmt} {x y z v : V} {tg iter : Expr}
/-! ### loops -/
theorem ks_for (hp : PassesOwn (model X.prog X.w) X.A X.env X.xe) (hc : X.calm = true) (hf : ∀ x, foldedSetIterable iter X.env x = pure x)
    (h : ki X H0 M tg iter σ L fun J L1 => ∃ (n : Nat) (G : LL → Prop) (Y : Nat → LL → V → LL → Prop) (I : Nat → L2.St → LL → Prop), Walks H0 M n G Y J ∧ I 0 σ L1 ∧ (∀ i σ L, i ≤ n → I i σ L → G L) ∧
      (∀ i x σ L L', i < n → I i σ L → Y i L x L' → kg X H0 M tg x σ L' fun σ2 L2 => kb X H0 M body (I (i + 1)) rt nx (I (i + 1)) σ2 L2) ∧ ∀ σ L, I n σ L → nx σ L) :
    ks X H0 M (.For tg iter body [] pos) nx rt bk ct σ L := ks_of (ps_for hp hc pi_wi pg_wg pb_wb hf) fun H z => wi_mono (h H z) fun J H1 ⟨L1, z1, n, G, Y, I, w, i0, ig, st, en⟩ => by
  refine ⟨fun i m σ H => m = n - i ∧ i ≤ n ∧ ∃ L, Hs H0 M L H ∧ I i σ L, ⟨n, rfl, Nat.zero_le n, L1, z1, i0⟩, ?_⟩
  rintro i m σ H ⟨em, hi, L, zL, iv⟩
  by_cases lt : i < n
  · refine .inr ⟨w.goes i L H lt (ig i σ L hi iv) zL, upS H0 M (I (i + 1)), fun σ' H' ⟨L', z', iv'⟩ => ⟨n - (i + 1), by omega, rfl, lt, L', z', iv'⟩, fun x H' yl => ?_⟩
    obtain ⟨L', z', y⟩ := w.yields i L H x H' lt (ig i σ L hi iv) zL yl
    exact wg_mono (fun pins s u J r => st i x σ L L' lt iv y H' z' pins s u J r) fun σ2 H2 ⟨L2, z2, k⟩ => k H2 z2
  · have : i = n := by omega
    subst this
    exact .inl ⟨w.stops L H (ig i σ L hi iv) zL, L, zL, en σ L iv⟩
theorem ks_while {W : Nat → L2.St → LL → Prop} (hp : PassesOwn (model X.prog X.w) X.A X.env X.xe) (m0 : Nat) (h0 : W m0 σ L)
    (h : ∀ m σ L, W m σ L → kt X H0 M c σ L fun k L1 => PickB k (kb X H0 M body (fun σ' L' => ∃ m', m' < m ∧ W m' σ' L') rt nx (fun σ' L' => ∃ m', m' < m ∧ W m' σ' L') σ L1) (nx σ L1)) :
    ks X H0 M (.While c body [] pos) nx rt bk ct σ L := ks_of (ps_while hp pt_wt pb_wb) fun H z => by
  refine ⟨fun m σ H => upS H0 M (W m) σ H, ⟨m0, L, z, h0⟩, fun m σ H ⟨L, z, w⟩ => wt_mono (h m σ L w H z) fun k H1 ⟨L1, z1, k1, k2⟩ => ?_⟩
  cases k with
  | true => exact iteT ⟨upS H0 M (fun σ' L' => ∃ m', m' < m ∧ W m' σ' L'), fun σ' H' ⟨L', z', m', lt, w'⟩ => ⟨m', lt, L', z', w'⟩, k1 rfl H1 z1⟩
  | false => exact iteF ⟨L1, z1, k2 rfl⟩
/-! ### what is walked -/
/-- a list, a tuple as it stands in L -/
theorem ki_list {P : It → LL → Prop} (h : ke X H0 M iter σ L fun v L1 => ∃ a xs, v = .ref a ∧ At L1 a (.lst xs) ∧ ∀ J, Walks H0 M xs.length (fun L => At L a (.lst xs)) (fun i L x L' => L' = L ∧ xs[i]? = some x) J → P J L1) : ki X H0 M tg iter σ L P := fun H z =>
  wi_of (pi_list pe_we) (we_mono (h H z) fun v H1 ⟨L1, z1, a, xs, ev, ia, k⟩ => ⟨a, ev, ⟨xs, z1.sq ia⟩, L1, z1, k _ ⟨fun i L H hi g z => walk_list.goes i H hi (z.sq g), fun L H g z => walk_list.stops H (z.sq g), fun i L H x H' hi g z y => by
    obtain ⟨e, y2⟩ := walk_list.yields i H x H' hi (z.sq g) y
    subst e
    exact ⟨L, z, rfl, y2⟩⟩⟩)
theorem ki_tup {P : It → LL → Prop} (h : ke X H0 M iter σ L fun v L1 => ∃ a xs, v = .ref a ∧ At L1 a (.tup xs) ∧ ∀ J, Walks H0 M xs.length (fun L => At L a (.tup xs)) (fun i L x L' => L' = L ∧ xs[i]? = some x) J → P J L1) : ki X H0 M tg iter σ L P := fun H z =>
  wi_of (pi_tup pe_we) (we_mono (h H z) fun v H1 ⟨L1, z1, a, xs, ev, ia, k⟩ => ⟨a, ev, ⟨xs, z1.st ia⟩, L1, z1, k _ ⟨fun i L H hi g z => walk_tup.goes i H hi (z.st g), fun L H g z => walk_tup.stops H (z.st g), fun i L H x H' hi g z y => by
    obtain ⟨e, y2⟩ := walk_tup.yields i H x H' hi (z.st g) y
    subst e
    exact ⟨L, z, rfl, y2⟩⟩⟩)
theorem ki_range1 {P : It → LL → Prop} (hg : Gl X "range") (hm : X.mg "range" = none) (hs : starEach [a] X.env = [(false, eval a X.env)])
    (h : ke X H0 M a σ L fun v L1 => ∃ j : Int, v = .int j ∧ j < 2 ^ 62 ∧ -(2 ^ 62) ≤ j ∧ ∀ J, Walks H0 M j.toNat (fun _ => True) (fun i L x L' => L' = L ∧ x = .int i) J → P J L1) : ki X H0 M tg (.Call (.Name "range" p) [a] [] pos) σ L P := fun H z =>
  wi_of (pi_range1 hg hm (pa_cons pe_we pa_nil hs) hs) (we_mono (h H z) fun v H1 ⟨L1, z1, j, ev, l2, l1, k⟩ => ⟨j, by rw [ev], l1, l2, L1, z1, k _ ⟨fun i L H hi _ z => walk_range.goes i H hi trivial, fun L H g z => walk_range.stops H trivial, fun i L H x H' hi g z y => by
    obtain ⟨e, y2⟩ := walk_range.yields i H x H' hi trivial y
    subst e
    exact ⟨L, z, rfl, y2.trans (congrArg V.int (Int.zero_add _))⟩⟩⟩)
theorem ki_range2 {P : It → LL → Prop} (hg : Gl X "range") (hm : X.mg "range" = none) (hs : starEach [a, b] X.env = [(false, eval a X.env), (false, eval b X.env)]) (hs2 : starEach [b] X.env = [(false, eval b X.env)])
    (h : ke X H0 M a σ L fun v L1 => ke X H0 M b σ L1 fun w L2 => ∃ i j : Int, v = .int i ∧ w = .int j ∧ (-(2 ^ 62) ≤ i ∧ i < 2 ^ 62 ∧ -(2 ^ 62) ≤ j ∧ j < 2 ^ 62) ∧ ∀ J, Walks H0 M (j - i).toNat (fun _ => True) (fun t L x L' => L' = L ∧ x = .int (i + t)) J → P J L2) : ki X H0 M tg (.Call (.Name "range" p) [a, b] [] pos) σ L P := fun H z =>
  wi_of (pi_range2 hg hm (pa_cons pe_we (pa_cons pe_we pa_nil hs2) (by rw [hs, hs2])) hs hs2) (we_mono (h H z) fun v H1 ⟨L1, z1, k⟩ => we_mono (k H1 z1) fun w H2 ⟨L2, z2, i, j, ev, ew, bd, k⟩ => ⟨i, j, by rw [ev, ew], bd, L2, z2, k _ ⟨fun i L H hi _ z => walk_range.goes i H hi trivial, fun L H g z => walk_range.stops H trivial, fun t L H x H' hi g z y => by
    obtain ⟨e, y2⟩ := walk_range.yields t H x H' hi trivial y
    subst e
    exact ⟨L, z, rfl, y2⟩⟩⟩)
theorem ki_enum {elts : List Expr} {kk : Nat} {tpos : Pos} {P : It → LL → Prop} (hg : Gl X "enumerate") (hm : X.mg "enumerate" = none) (hs : starEach [e] X.env = [(false, eval e X.env)])
    (h : ke X H0 M e σ L fun v L1 => ∃ a xs, v = .ref a ∧ At L1 a (.lst xs) ∧ ∀ J, Walks H0 M xs.length (fun L => At L a (.lst xs)) (fun i L x L' => ∃ T y, x = .ref T ∧ H0 T = none ∧ xs[i]? = some y ∧ L' = (T, .tup [.int i, y]) :: L) J → P J L1) :
    ki X H0 M (.Tuple elts kk tpos) (.Call (.Name "enumerate" p) [e] [] pos) σ L P := fun H z =>
  wi_of (pi_enum hg hm (pa_cons pe_we pa_nil hs) hs) (we_mono (h H z) fun v H1 ⟨L1, z1, a, xs, ev, ia, k⟩ => ⟨a, xs, by rw [ev], z1.sq ia, L1, z1, k _ ⟨fun i L H hi g z => walk_enum.goes i H hi (z.sq g), fun L H g z => walk_enum.stops H (z.sq g), fun i L H x H' hi g z y => by
    obtain ⟨T, u, w, h1, h2, h3, h4, h5⟩ := walk_enum.yields i H x H' hi (z.sq g) y
    cases h4
    subst h1 h3
    exact ⟨_, z.new h2, T, w, rfl, z.fresh h2, h5, rfl⟩⟩⟩)
theorem ki_zip {elts : List Expr} {kk : Nat} {tpos : Pos} {P : It → LL → Prop} (hg : Gl X "zip") (hm : X.mg "zip" = none) (hs : starEach [a, b] X.env = [(false, eval a X.env), (false, eval b X.env)]) (hs2 : starEach [b] X.env = [(false, eval b X.env)]) (hpl : (backTo pos (starEach [b] X.env)).any (·.1) = false)
    (h : ke X H0 M a σ L fun v L1 => ke X H0 M b σ L1 fun w L2 => ∃ a b xs ys, v = .ref a ∧ w = .ref b ∧ At L2 a (.lst xs) ∧ At L2 b (.lst ys) ∧ ∀ J, Walks H0 M (min xs.length ys.length) (fun L => At L a (.lst xs) ∧ At L b (.lst ys))
      (fun i L x L' => ∃ T u y, x = .ref T ∧ H0 T = none ∧ xs[i]? = some u ∧ ys[i]? = some y ∧ L' = (T, .tup [u, y]) :: L) J → P J L2) :
    ki X H0 M (.Tuple elts kk tpos) (.Call (.Name "zip" p) [a, b] [] pos) σ L P := fun H z =>
  wi_of (pi_zip hg hm (pa_cons pe_we (pa_cons pe_we pa_nil hs2) (by rw [hs, hs2])) (by rw [hs, hs2]) hpl) (we_mono (h H z) fun v H1 ⟨L1, z1, k⟩ => we_mono (k H1 z1) fun w H2 ⟨L2, z2, a, b, xs, ys, ev, ew, ia, ib, k⟩ => ⟨a, b, xs, ys, by rw [ev, ew], z2.sq ia, z2.sq ib, L2, z2, k _ ⟨
    fun i L H hi g z => (walk_zip rfl).goes i H hi ⟨z.sq g.1, z.sq g.2⟩, fun L H g z => (walk_zip rfl).stops H ⟨z.sq g.1, z.sq g.2⟩, fun i L H x H' hi g z y => by
    obtain ⟨T, u, w, h1, h2, h3, h4, h5⟩ := (walk_zip rfl).yields i H x H' hi ⟨z.sq g.1, z.sq g.2⟩ y
    subst h1 h3
    exact ⟨_, z.new h2, T, u, w, rfl, z.fresh h2, h4, h5, rfl⟩⟩⟩)
/-! ### targets of more names -/
def wgs (X : Cx) (ts : List Expr) : TGs := fun vs σ H Q => ∀ (pins : List (Addr × Obj)) (s : Shared) (us : List Value), Inv X pins σ H s → Vals vs us → wpAny (model X.prog X.w) X.A (assignInOrder ((assignEach ts X.env).map (·.2)) us) (fun _ s' => ∃ σ' H', Inv X pins σ' H' s' ∧ Q σ' H') X.xe s
theorem pgs_wgs {ts : List Expr} : PGs X ts (wgs X ts) := ⟨fun pins s _ _ _ us _ I r h => h pins s us I r⟩
theorem wgs_mono {ts : List Expr} {vs : List V} {H : Hp} {P P' : L2.St → Hp → Prop} (h : wgs X ts vs σ H P) (k : ∀ σ H, P σ H → P' σ H) : wgs X ts vs σ H P' := fun pins s u I r => thn (h pins s u I r) fun _ _ ⟨σ', H', I', q⟩ => ⟨σ', H', I', k _ _ q⟩
def kgs (X : Cx) (H0 : Hp) (M : Addr → Prop) (ts : List Expr) (vs : List V) (σ : L2.St) (L : LL) (P : L2.St → LL → Prop) : Prop := ∀ H, Hs H0 M L H → wgs X ts vs σ H (upS H0 M P)
theorem kgs_nil {P : L2.St → LL → Prop} (h : P σ L) : kgs X H0 M [] [] σ L P := fun H z pins s us I r => pgs_nil.run pins s σ H [] us _ I r ⟨rfl, L, z, h⟩
theorem kgs_cons {t : Expr} {ts : List Expr} {vs : List V} {P : L2.St → LL → Prop} (hs : (assignEach (t :: ts) X.env).map (·.2) = assign t X.env :: (assignEach ts X.env).map (·.2)) (h : kg X H0 M t v σ L fun σ2 L2 => kgs X H0 M ts vs σ2 L2 P) :
    kgs X H0 M (t :: ts) (v :: vs) σ L P := fun H z pins s us I r => (pgs_cons pg_wg pgs_wgs hs).run pins s σ H (v :: vs) us _ I r ⟨v, vs, rfl, wg_mono (fun pins s u I r => h H z pins s u I r) fun σ2 H2 ⟨L2, z2, q⟩ => q H2 z2⟩
theorem kg_unl {ts : List Expr} {k : Nat} {n : Nat} {a : Addr} {xs : List V} {P : L2.St → LL → Prop} (hc : X.calm = true) (hn : (assignEach ts X.env).length = n) (hst : (assignEach ts X.env).findIdx? (·.1) = none)
    (ia : At L a (.lst xs)) (hl : xs.length = n) (h : kgs X H0 M ts xs σ L P) : kg X H0 M (.Tuple ts k pos) (.ref a) σ L P := kg_of (pg_unl hc pgs_wgs hn hst) fun H z => ⟨a, xs, rfl, z.sq ia, hl, h H z⟩
theorem kg_tup {ts : List Expr} {k : Nat} {n : Nat} {a : Addr} {xs : List V} {P : L2.St → LL → Prop} (hc : X.calm = true) (hn : (assignEach ts X.env).length = n) (hst : (assignEach ts X.env).findIdx? (·.1) = none)
    (ia : At L a (.tup xs)) (hl : xs.length = n) (h : kgs X H0 M ts xs σ L P) : kg X H0 M (.Tuple ts k pos) (.ref a) σ L P := kg_of (pg_tup hc pgs_wgs hn hst) fun H z => ⟨a, xs, rfl, z.st ia, hl, h H z⟩
/-- o[i] = v -/
theorem kg_sub {P : L2.St → LL → Prop} (ha : ∀ v, assign (.Subscript o e pos) X.env v = (do
      let ov ← holding [v] (eval o X.env)
      let iv ← holding [v, ov] (eval e X.env)
      standAt pos
      holding [v, ov, iv] (setItem ov iv v)
      release [v, ov, iv] []))
    (h : ke X H0 M o σ L fun x L1 => ke X H0 M e σ L1 fun y L2 => ∃ p xs i j g, x = .ref p ∧ y = .int i ∧ Spot L2 p (.lst xs) g ∧ (H0 p = none ∨ M p) ∧ ixN xs.length i = some j ∧ P σ (g (.lst (xs.set j v)))) : kg X H0 M (.Subscript o e pos) v σ L P :=
  kg_of (pg_sub pe_we pe_we set_list ha) fun H z => we_mono (h H z) fun x H1 ⟨L1, z1, k⟩ => we_mono (k H1 z1) fun y H2 ⟨L2, z2, p, xs, i, j, g, ex, ey, sp, c, hj, q⟩ => ⟨p, xs, i, j, ex, ey, z2.at_ _ sp.mem, hj, _, z2.put sp c, q⟩
/-! ### subscripts, slices -/
def Ix (K : PySem.W.Frag) (H0 : Hp) (M : Addr → Prop) (x y : V) (L : LL) (Q : V → LL → Prop) : Prop :=
  (∃ p xs i v, x = .ref p ∧ y = .int i ∧ (At L p (.lst xs) ∨ (SqL K H0 p xs ∧ ¬ M p)) ∧ atI xs i = some v ∧ Q v L) ∨ (∃ p xs i v, x = .ref p ∧ y = .int i ∧ At L p (.tup xs) ∧ atI xs i = some v ∧ Q v L) ∨
    (∃ z i c, x = .str z ∧ y = .int i ∧ z.length ≤ sizeLine ∧ atI z.cps.toList i = some c ∧ Q (.str ⟨#[c]⟩) L)
theorem ke_ix (hs : PlainIx b) (h : ke X H0 M a σ L fun x L1 => ke X H0 M b σ L1 fun y L2 => Ix X.K H0 M x y L2 Q) : ke X H0 M (.Subscript a b pos) σ L Q := fun H z =>
  we_of (pe_ix ix_seq pe_we pe_we hs) (we_mono (h H z) fun x H1 ⟨L1, z1, k⟩ => we_mono (k H1 z1) fun y H2 ⟨L2, z2, k2⟩ => by
    rcases k2 with ⟨p, xs, i, v, ex, ey, ia, hv, q⟩ | ⟨p, xs, i, v, ex, ey, ia, hv, q⟩ | ⟨w, i, c, ex, ey, hl, hv, q⟩
    · exact .inl ⟨p, xs, i, v, ex, ey, ia.elim (fun ia => z2.sq ia) (fun r => z2.seq r.1 r.2), hv, L2, z2, q⟩
    · exact .inr (.inl ⟨p, xs, i, v, ex, ey, z2.st ia, hv, L2, z2, q⟩)
    · exact .inr (.inr ⟨w, i, c, ex, ey, hl, hv, L2, z2, q⟩))
theorem ix_lst {K : PySem.W.Frag} {p : Addr} {xs : List V} {i : Int} (ia : At L p (.lst xs)) (hv : atI xs i = some v) (h : Q v L) : Ix K H0 M (.ref p) (.int i) L Q := .inl ⟨p, xs, i, v, rfl, rfl, .inl ia, hv, h⟩
theorem ix_scr {K : PySem.W.Frag} {p : Addr} {xs : List V} {i : Int} (r : SqL K H0 p xs) (m : ¬ M p) (hv : atI xs i = some v) (h : Q v L) : Ix K H0 M (.ref p) (.int i) L Q := .inl ⟨p, xs, i, v, rfl, rfl, .inr ⟨r, m⟩, hv, h⟩
theorem ix_tp {K : PySem.W.Frag} {p : Addr} {xs : List V} {i : Int} (ia : At L p (.tup xs)) (hv : atI xs i = some v) (h : Q v L) : Ix K H0 M (.ref p) (.int i) L Q := .inr (.inl ⟨p, xs, i, v, rfl, rfl, ia, hv, h⟩)
theorem ix_k {K : PySem.W.Frag} {p : Addr} {i : Int} (h : Aq L p fun o => (∃ xs, o = .lst xs ∧ ∃ v, atI xs i = some v ∧ Q v L) ∨ (∃ xs, o = .tup xs ∧ ∃ v, atI xs i = some v ∧ Q v L)) : Ix K H0 M (.ref p) (.int i) L Q := by
  obtain ⟨o, ia, ⟨xs, rfl, v, hv, q⟩ | ⟨xs, rfl, v, hv, q⟩⟩ := h
  · exact ix_lst ia hv q
  · exact ix_tp ia hv q
/-- .. the form of the store -/
theorem sub_k {P : LL → Prop} {p : Addr} {i : Int} (c : H0 p = none ∨ M p) (h : Sq L p fun o g => ∃ xs, o = .lst xs ∧ ∃ j, ixN xs.length i = some j ∧ P (g (.lst (xs.set j v)))) :
    ∃ p' xs i' j g, V.ref p = .ref p' ∧ V.int i = .int i' ∧ Spot L p' (.lst xs) g ∧ (H0 p' = none ∨ M p') ∧ ixN xs.length i' = some j ∧ P (g (.lst (xs.set j v))) := by
  obtain ⟨o, g, sp, xs, rfl, j, hj, q⟩ := h
  exact ⟨p, xs, i, j, g, rfl, rfl, sp, c, hj, q⟩
/-- a part of a slice -/
def ko (X : Cx) (H0 : Hp) (M : Addr → Prop) (e : Option Expr) (σ : L2.St) (L : LL) (Q : Option Int → LL → Prop) : Prop := match e with
  | none => Q none L
  | some e => ke X H0 M e σ L fun x L1 => ∃ i, x = .int i ∧ Q (some i) L1
def wopt (X : Cx) (e : Option Expr) : TO := match e with
  | none => tNoPart
  | some e => tPart (we X e)
theorem po_wopt : ∀ {e : Option Expr}, PO X e (wopt X e)
  | none => po_none
  | some _ => po_some pe_we
theorem ko_up {H : Hp} {Q : Option Int → LL → Prop} {Q' : Option Int → Hp → Prop} (z : Hs H0 M L H) : ∀ {e : Option Expr}, ko X H0 M e σ L Q → (∀ i L1 H1, Hs H0 M L1 H1 → Q i L1 → Q' i H1) → wopt X e σ H Q'
  | none, h, k => k none L H z h
  | some _, h, k => we_mono (h H z) fun x H1 ⟨L1, z1, i, ex, q⟩ => ⟨i, ex, k _ L1 H1 z1 q⟩
/-- xs[lo:hi], a list: a new one -/
theorem ke_sl {lo hi : Option Expr} {p2 : Pos} (h : ke X H0 M e σ L fun x L1 => ko X H0 M lo σ L1 fun l L2 => ko X H0 M hi σ L2 fun u L3 => ∃ p xs, x = .ref p ∧ (At L3 p (.lst xs) ∨ (SqL X.K H0 p xs ∧ ¬ M p)) ∧ New H0 (.lst (cutV xs l u)) L3 Q) :
    ke X H0 M (.Subscript e (.Slice lo hi none p2) pos) σ L Q := fun H z =>
  we_of (pe_slice sl_list pe_we po_wopt po_wopt) (we_mono (h H z) fun x H1 ⟨L1, z1, k⟩ => ko_up z1 k fun l L2 H2 z2 k2 => ko_up z2 k2 fun u L3 H3 z3 ⟨p, xs, ex, ia, k3⟩ =>
    ⟨p, xs, ex, ia.elim (fun ia => z3.sq ia) (fun r => z3.seq r.1 r.2), new_up z3 k3⟩)
/-! ### built-ins by name -/
def wc (X : Cx) (f : Value) : List V → Hp → VK → Prop := fun xs H Q => ∀ (pins : List (Addr × Obj)) (s : Shared) (σ : L2.St) (us : List Value), Inv X pins σ H s → Vals xs us → wpAny (model X.prog X.w) X.A (call f us) (EP X pins σ Q) X.xe s
theorem call_wc {f : Value} : CallR X f (wc X f) := fun pins s σ H xs us Q I r h => h pins s σ us I r
def rc (X : Cx) (H0 : Hp) (M : Addr → Prop) (f : Value) (xs : List V) (L : LL) (Q : V → LL → Prop) : Prop := ∀ H, Hs H0 M L H → wc X f xs H (up H0 M Q)
theorem rc_of {f : Value} {r : List V → Hp → VK → Prop} {xs : List V} (ho : CallR X f r) (h : ∀ H, Hs H0 M L H → r xs H (up H0 M Q)) : rc X H0 M f xs L Q := fun H z pins s σ us I rv => ho pins s σ H xs us _ I rv (h H z)
theorem ke_callB {x : Str} {id : String} (hg : Gl X x) (hm : X.mg x = none) (hv : bootBuiltins x = some (.builtin id)) (he : starEach (e :: es) X.env = (false, eval e X.env) :: starEach es X.env) (hpl : (backTo pos (starEach es X.env)).any (·.1) = false)
    (h : ka X H0 M (e :: es) σ L fun vs L1 => rc X H0 M (.builtin id) vs L1 Q) (hn : x ≠ "__name__" := by decide) (hdb : (x == ("__debug__" : Str)) = false := by decide) : ke X H0 M (.Call (.Name x p) (e :: es) [] pos) σ L Q := fun H z =>
  we_of (pe_callB call_wc hg hm hv pa_wa hn hdb he hpl) (wa_mono (h H z) fun vs H1 ⟨L1, z1, k⟩ => k H1 z1)
theorem ke_callY {x : Str} {T : String} (hg : Gl X x) (hm : X.mg x = none) (hv : bootBuiltins x = some (.type T)) (he : starEach (e :: es) X.env = (false, eval e X.env) :: starEach es X.env) (hpl : (backTo pos (starEach es X.env)).any (·.1) = false)
    (h : ka X H0 M (e :: es) σ L fun vs L1 => rc X H0 M (.type T) vs L1 Q) (hn : x ≠ "__name__" := by decide) (hdb : (x == ("__debug__" : Str)) = false := by decide) : ke X H0 M (.Call (.Name x p) (e :: es) [] pos) σ L Q := fun H z =>
  we_of (pe_callTy call_wc hg hm hv pa_wa hn hdb he hpl) (wa_mono (h H z) fun vs H1 ⟨L1, z1, k⟩ => k H1 z1)
theorem rc_lenL {q : Addr} {xs : List V} (ia : At L q (.lst xs)) (h : Q (.int xs.length) L) : rc X H0 M (.builtin "len") [.ref q] L Q := rc_of call_len_seq fun H z => ⟨q, xs, rfl, .inl (z.sq ia), L, z, h⟩
theorem rc_lenT {q : Addr} {xs : List V} (ia : At L q (.tup xs)) (h : Q (.int xs.length) L) : rc X H0 M (.builtin "len") [.ref q] L Q := rc_of call_len_seq fun H z => ⟨q, xs, rfl, .inr (z.st ia), L, z, h⟩
theorem rc_lenR {q : Addr} {xs : List V} (r : SqL X.K H0 q xs) (m : ¬ M q) (h : Q (.int xs.length) L) : rc X H0 M (.builtin "len") [.ref q] L Q := rc_of call_len_seq fun H z => ⟨q, xs, rfl, .inl (z.seq r m), L, z, h⟩
theorem rc_abs {i : Int} (h : Q (.int (if i < 0 then -i else i)) L) : rc X H0 M (.builtin "abs") [.int i] L Q := rc_of call_abs fun H z => ⟨i, rfl, L, z, h⟩
theorem rc_max2 {i j : Int} (hc : X.calm = true) (h : Q (.int (if j > i then j else i)) L) : rc X H0 M (.builtin "max") [.int i, .int j] L Q := rc_of (call_max2 hc) fun H z => ⟨i, j, rfl, L, z, h⟩
theorem rc_min2 {i j : Int} (hc : X.calm = true) (h : Q (.int (if j < i then j else i)) L) : rc X H0 M (.builtin "min") [.int i, .int j] L Q := rc_of (call_min2 hc) fun H z => ⟨i, j, rfl, L, z, h⟩
theorem rc_intI {i : Int} (h : Q (.int i) L) : rc X H0 M (.type "int") [.int i] L Q := rc_of call_int1 fun H z => .inl ⟨i, rfl, L, z, h⟩
theorem rc_intB {k : Bool} (h : Q (.int (if k then 1 else 0)) L) : rc X H0 M (.type "int") [.bl k] L Q := rc_of call_int1 fun H z => .inr ⟨k, rfl, L, z, h⟩
theorem rc_strI {i : Int} (hb : i.natAbs.log2 < 1920) (h : Q (.str (toString i)) L) : rc X H0 M (.type "str") [.int i] L Q := rc_of call_str_int fun H z => ⟨i, rfl, hb, L, z, h⟩
theorem rc_list {q : Addr} {xs : List V} (ia : At L q (.lst xs)) (h : New H0 (.lst xs) L Q) : rc X H0 M (.type "list") [.ref q] L Q := rc_of call_list_of fun H z => ⟨q, xs, rfl, .inl (z.sq ia), new_up z h⟩
theorem rc_listT {q : Addr} {xs : List V} (ia : At L q (.tup xs)) (h : New H0 (.lst xs) L Q) : rc X H0 M (.type "list") [.ref q] L Q := rc_of call_list_of fun H z => ⟨q, xs, rfl, .inr (z.st ia), new_up z h⟩
theorem rc_tuple {q : Addr} {xs : List V} (ia : At L q (.lst xs)) (h : New H0 (.tup xs) L Q) : rc X H0 M (.type "tuple") [.ref q] L Q := rc_of call_tuple_of fun H z => ⟨q, xs, rfl, .inl ⟨z.sq ia, new_up z h⟩⟩
/-- x.bit_length() -/
theorem ke_bits (hbase : attributeBase o "bit_length" X.env (eval o X.env) = eval o X.env) (hline : (apos.endLine == pos.line) = true) (h : ke X H0 M o σ L fun x L1 => ∃ i, x = .int i ∧ Q (.int (Builtin.Int.intBits i : Nat)) L1) :
    ke X H0 M (.Call (.Attribute o "bit_length" apos) [] [] pos) σ L Q := fun H z => we_of (pe_bits pe_we hbase hline) (we_mono (h H z) fun x H1 ⟨L1, z1, i, ex, q⟩ => ⟨i, ex, L1, z1, q⟩)
/-- xs.append(e) -/
theorem ke_app (hbase : attributeBase o "append" X.env (eval o X.env) = eval o X.env) (hfew : ((backTo pos (starEach [e] X.env)).all (fun x => !x.1) && (backToKw pos (keywordEach [] X.env)).all (fun x => x.1.isSome)
      && decide (([e] : List Expr).length + ([] : List Keyword).length + (if ([] : List Keyword).isEmpty then 0 else 1) < 30)) = true) (hline : (apos.endLine == pos.line) = true) (hs : starEach [e] X.env = (false, eval e X.env) :: starEach [] X.env) (hpl : (backTo pos (starEach [] X.env)).any (·.1) = false)
    (h : ke X H0 M o σ L fun x L1 => ∃ q ys, x = .ref q ∧ At L1 q (.lst ys) ∧ ke X H0 M e σ L1 fun v L2 => ∃ xs g, Spot L2 q (.lst xs) g ∧ (H0 q = none ∨ M q) ∧ xs.length < sizeLine ∧ Q .non (g (.lst (xs ++ [v])))) :
    ke X H0 M (.Call (.Attribute o "append" apos) [e] [] pos) σ L Q := fun H z =>
  we_of (pe_bm PySem.F.plainAttrs_list PySem.F.slot_list_append PySem.F.type_list_append mt_append pe_we (pa_cons pe_we pa_nil hs) hbase hfew hline hs hpl)
    (we_mono (h H z) fun x H1 ⟨L1, z1, q, ys, ex, ia, k⟩ => by
      subst ex
      exact ⟨.inl ⟨rfl, ys, z1.sq ia⟩, we_mono (k H1 z1) fun v H2 ⟨L2, z2, xs, g, sp, c, hl, r⟩ => ⟨q, xs, v, rfl, rfl, z2.at_ _ sp.mem, hl, _, z2.put sp c, r⟩⟩)
end
end Xi

/-! ## Super -/
/-! A def whose body is super().m(e, ..) alone. -/
namespace Xi
open PySem PySem.Spec PyProof.Rows L2 StX

theorem rev_lookup : ∀ {ps : List Str} {us : List Value} {i : Nat} {x : Str} {u : Value}, ps.Nodup → ps[i]? = some x → us[i]? = some u → (ps.zip us).reverse.lookup x = some u := by
  intro ps us
  have key : ∀ (ps : List Str) (us : List Value) (i : Nat) (x : Str) (u : Value), ps.Nodup → ps[i]? = some x → us[i]? = some u → (x, u) ∈ ps.zip us ∧ ∀ w, (x, w) ∈ ps.zip us → w = u := by
    intro ps
    induction ps with
    | nil => intro us i x u _ h; simp at h
    | cons p ps ih =>
      intro us i x u nd h1 h2
      cases us with
      | nil => simp at h2
      | cons w us =>
        cases i with
        | zero =>
          simp at h1 h2
          subst h1 h2
          refine ⟨List.mem_cons_self, fun z hz => ?_⟩
          rcases List.mem_cons.mp hz with e | hz
          · exact (Prod.mk.inj e).2
          · exact absurd (List.of_mem_zip hz).1 (List.nodup_cons.mp nd).1
        | succ i =>
          simp at h1 h2
          obtain ⟨a, b⟩ := ih us i x u (List.nodup_cons.mp nd).2 h1 h2
          refine ⟨List.mem_cons_of_mem _ a, fun z hz => ?_⟩
          rcases List.mem_cons.mp hz with e | hz
          · have : x = p := (Prod.mk.inj e).1
            subst this
            exact absurd (List.mem_of_getElem? h1) (List.nodup_cons.mp nd).1
          · exact b z hz
  intro i x u nd h1 h2
  obtain ⟨a, b⟩ := key ps us i x u nd h1 h2
  have pick : ∀ (l : List (Str × Value)), (x, u) ∈ l → (∀ w, (x, w) ∈ l → w = u) → l.lookup x = some u := by
    intro l
    induction l with
    | nil => intro h; exact absurd h (by simp)
    | cons p r ih =>
      intro h1 h2
      obtain ⟨y, w⟩ := p
      by_cases e : x = y
      · subst e
        have := h2 w List.mem_cons_self
        subst this
        simp
      · have ne : (x == y) = false := by simpa using e
        rw [List.lookup_cons, ne]
        refine ih ((List.mem_cons.mp h1).resolve_left fun z => e (Prod.mk.inj z).1) fun w hw => h2 w (List.mem_cons_of_mem _ hw)
  exact pick _ (List.mem_reverse.mpr a) fun w hw => b w (List.mem_reverse.mp hw)

/-- the context of such a body -/
def cxSup (P : Program) (w : World) (K : PySem.W.Frag) (mg : Str → Option Value) (base : Heap) (N : List Str) (qual : Str) (scope : Scope) (f cda cc : Addr) (A : Around) (out : List Env) (s : Shared) (H : Hp) : Cx where
  prog := P
  w := w
  K := K
  mg := mg
  base := base
  A := A.deeper (PySem.W.ksEnv qual scope s.heap.objs.size f (.ref cda) cc)
  N := N
  s_0 := s
  H_0 := H
  env := PySem.W.ksEnv qual scope s.heap.objs.size f (.ref cda) cc
  outer := out
  stack := PySem.W.ksEnv qual scope s.heap.objs.size f (.ref cda) cc :: out
  ex := []
  fn := fun _ => false
  calm := true
  pn := []
  xe := fun _ _ => False
structure SupOk (K : PySem.W.Frag) (P : Program) (qual : Str) (scope : Scope) (ps : List Str) (f2 cda cc D : Addr) (m : Str) : Prop where
  code : ∃ c1 d1 vs sl1 file tf, K.lookup cda = some ⟨c1, d1, .fields vs, sl1⟩ ∧ vs[2]? = some (.str file tf) ∧ ((P.main.file : Str) == file) = true
  cell : ∃ c2 d2 sl2, K.lookup cc = some ⟨c2, d2, .cell (some (.ref D)), sl2⟩
  cls : ∃ cd, PySem.W.clsIn K D = some cd
  sub : PySem.W.mroIn K D (.ref D) = some true
  find : PySem.W.ks_superIn K D D m = some (some (.ref f2))
  fn2 : PySem.W.typeIn K (.ref f2) = some (.type "function")
  fi2 : PySem.W.fnIn K f2 = true
  third : PySem.W.nsIn K PySem.cStatics "thirdparty.any" = some none
  kind : scope.kind = .function
  co : scope.isCoroutine = false
  gen : scope.isGenerator = false
  nocell : ∀ y ∈ scope.names, y.2 ≠ .cell
  free : ∀ y ∈ scope.names, y.2 = .free → y.1 = ("__class__" : Str)
  su : scope.names.lookup ("super" : Str) = some .globalImplicit
  cl : scope.names.lookup ("__class__" : Str) = some .free
  par : ∀ x ∈ ps, scope.names.lookup x = some .local
  nd : ps.Nodup
  top : (P.main.scope.names.lookup ("super" : Str)).isSome = false
  nm : (m == ("__class__" : Str)) = false

theorem fk_super {P : Program} {w : World} {K : PySem.W.Frag} {mg : Str → Option Value} {base : Heap} {k j : Nat} {f f2 cda cc D : Addr} {name qual m : Str} {params : Arguments} {scope : Scope} {dV kV doc pm ct oc : Value} {an od : Option Addr} {osl : Array (Option Value)}
    {ps ps2 : List Str} {x0 : Str} {ar : Arg} {fd2 : FuncData} {sp sp2 : Sp} {e : Expr} {es : List Expr} {p0 p1 p2 p3 p4 : Pos} {body : List Stmt}
    (lk : K.lookup f = some ⟨oc, od, .func (PySem.W.ksFn name qual params body scope dV kV doc pm an (.ref cda) ct cc), osl⟩) (hcd : PySem.W.codeIn K (.ref cda) qual = true)
    (eb : body = [.Expr (.Call (.Attribute (.Call (.Name "super" p0) [] [] p1) m p2) (e :: es) [] p3) p4])
    (O : SupOk K P qual scope ps f2 cda cc D m) (hms : mg "super" = none) (har : (params.posonlyargs ++ params.args).head? = some ar) (h0 : ps[0]? = some ar.arg)
    (F2 : Fk P w K mg base CX0 j f2 fd2 ps2 sp2) (b2 : Binds K fd2 ps2 []) (hj : j ≤ k)
    (len : ∀ vs H Q E, sp vs H Q E → vs.length = ps.length)
    (he : ∀ env, starEach (e :: es) env = (false, eval e env) :: starEach es env) (hpl : ∀ env, (backTo p3 (starEach es env)).any (·.1) = false)
    (ht : ∀ env, ∃ pl : Sem Bool, eval (.Call (.Attribute (.Call (.Name "super" p0) [] [] p1) m p2) (e :: es) [] p3) env = (do
      let ov ← attributeBase (.Call (.Name "super" p0) [] [] p1) m env (eval (.Call (.Name "super" p0) [] [] p1) env)
      standAt p2.atName
      let (f, first) ← holding [ov] (getMethod ov m pl)
      callWith p3 f first (backTo p3 (starEach (e :: es) env)) []))
    (hsw : ∀ env, swapsWith (.Call (.Attribute (.Call (.Name "super" p0) [] [] p1) m p2) (e :: es) [] p3) none p4.line env = pure false)
    (hb : ∀ (X : Cx), X.N = ps → X.env.scope = scope → ∀ (H : Hp) (vs : List V) (Q : VK) (E : XK), sp vs H Q E → ∃ a dx fs, vs[0]? = some (.ref a) ∧ H a = some (.ins D dx fs) ∧ wa X (e :: es) (vs.map some) H fun us H2 => sp2 (.ref a :: us) H2 (fun _ H3 => Q .non H3) E0) :
    Fk P w K mg base CX0 (k + 1) f (PySem.W.ksFn name qual params body scope dV kV doc pm an (.ref cda) ct cc) ps sp := by
  refine ⟨len, fun A out s H ag us vs Q E room gd e0 bnd rv q => ?_⟩
  have KX : K.In s.heap := e0.mod.kin.keeps fun b o e => (e0.bs b o e).1
  have nolim : s.heap.NoLimit := e0.mod.nolimit.keeps fun b o e => (e0.bs b o e).1
  have hl : vs.length = ps.length := len _ _ _ _ q
  have hlu : us.length = ps.length := rv.length.symm.trans hl
  refine PySem.ks_codeAny_call_defAt (fd := PySem.W.ksFn name qual params body scope dV kV doc pm an (.ref cda) ct cc) (body := body) (binds := ps.zip us) room.depth (KX f _ lk) rfl nolim (PySem.W.codeRec_of KX hcd) rfl bnd O.nocell (fun y hy => O.par y.1 (List.of_mem_zip hy).1) (fun h1 ns1 keep1 => ?_) O.co O.gen O.kind
  obtain ⟨c2, d2, sl2, kcell⟩ := O.cell
  obtain ⟨c1, d1, cvs, sl1, file, tf, kcode, hvs, hfile⟩ := O.code
  obtain ⟨cdD, hcls⟩ := O.cls
  let X := cxSup P w K mg base ps qual scope f cda cc A out s H
  have incc : ∀ x c, X.env.cells.lookup x = some c → x = ("__class__" : Str) ∧ c = cc := fun x c h => by
    have h' : List.lookup x [(("__class__" : Str), cc)] = some c := h
    rw [List.lookup_cons] at h'
    by_cases z : x = ("__class__" : Str)
    · subst z
      rw [beq_self_eq_true] at h'
      exact ⟨rfl, (Option.some.inj h').symm⟩
    · rw [show (x == ("__class__" : Str)) = false by simpa using z] at h'
      cases h'
  have ok : X.Ok := by
    refine ⟨e0.mod, O.kind, rfl, rfl, Nat.le_refl _, fun y z c a b => ((incc y c a).1).trans ((incc z c b).1).symm, fun y hy => ?_, fun y c z => (nomatch z), fun _ => room.hd, Around.frames_deeper e0.frames, .inr ⟨rfl, rfl⟩, fun b z => (nomatch z), e0.bs, e0.bsz, fun b _ _ z => (nomatch z), fun b z => (nomatch z), e0.funs, e0.frf⟩
    have hy' : scope.names.lookup y = some .cell ∨ scope.names.lookup y = some .free := hy
    rcases hy' with z | z
    · exact absurd rfl (O.nocell _ (PySem.mem_of_lookup z))
    · have : y = ("__class__" : Str) := O.free _ (PySem.mem_of_lookup z) rfl
      subst this
      exact ⟨cc, by show List.lookup _ [(("__class__" : Str), cc)] = some cc; simp⟩
  have bcell := e0.mod.kin cc _ kcell
  have I : Inv X [] (vs.map some) H { s with heap := h1, toks := s.toks + (ps.zip us).length } := by
    refine ⟨ok, rfl, e0.bare, Un.kept keep1, ⟨_, ns1, fun i y v a b c => ?_⟩, fun x c h => ?_, e0.hok.fresh (Nat.le_refl _), fun x c h => ?_, fun p hp => absurd (show p ∈ ([] : List (Addr × Obj)) from hp) (by simp), e0.hok.kept keep1, ?_⟩
    · have hv : vs[i]? = some v := by
        rw [List.getElem?_map] at b
        cases z : vs[i]? with
        | none => rw [z] at b; cases b
        | some a => rw [z] at b; cases b; rfl
      obtain ⟨u, hu, ru⟩ := rv.get hv
      exact ⟨u, ru, .inl ⟨O.par y (List.mem_of_getElem? a), rev_lookup O.nd a hu⟩⟩
    · obtain ⟨rfl, rfl⟩ := incc x c h
      exact ⟨_, _, keep1 _ _ (e0.bs _ _ bcell).1, rfl⟩
    · obtain ⟨rfl, rfl⟩ := incc x c h
      exact (e0.bs _ _ bcell).2
    · show (vs.map some).length = ps.length
      rw [List.length_map]; exact hl
  have gd2 : X.A.guards = some [] := gd
  have room2 : Room k X.A := room.deeper _
  obtain ⟨a, dx, fs, hv0, ha, hargs⟩ := hb X rfl rfl H vs Q E q
  -- execs [super().m(..)]
  rw [eb]
  have quiet : interactive X.env = false := I.quiet
  obtain ⟨pl, hte⟩ := ht X.env
  refine PySem.ks_wpAt_execs_cons (PySem.ks_wpAt_Expr_any (PySem.ks_wpAt_MethodCall (pl := pl) ?_ hte) quiet (hsw _))
  obtain ⟨mA, OM, _, _, _, _⟩ := ins_get I.hok ha
  obtain ⟨odx, J, _⟩ := OM.look
  have KI := I.kIn
  obtain ⟨m1, nsL, hm1⟩ := I.loc
  have kfind : ∀ x, X.env.kindOf x = scope.names.lookup x := fun _ => rfl
  refine PySem.ks_wpAt_super_base (env := X.env) (f := f) (cc := cda) O.su O.cl O.nm rfl (KI _ _ lk) rfl har rfl (KI _ _ kcode) rfl hvs hfile O.top ?_
  -- super, __class__, self
  obtain ⟨mb, hb1, hb2⟩ := I.mod.blt
  have ns1' := ns1
  refine PySem.W.ks_loadName_global O.kind O.su (Calls.loadGlobal_builtin (env := X.env) (I.mod.glob.keeps I.bk) hms (hb1.keeps I.bk) ((hb2 _ (by decide)).trans (by decide +kernel : bootBuiltins ("super" : Str) = some (.type "super"))) ⟨rfl, ?_⟩)
  refine wpAny_loadName_free O.kind O.cl (by show List.lookup _ [(("__class__" : Str), cc)] = some cc; simp) ⟨_, keep1 _ _ (e0.bs _ _ bcell).1, rfl⟩ ?_
  obtain ⟨u0, hu0, ru0⟩ := rv.get hv0
  obtain rfl : u0 = Value.ref a := ru0
  refine wpAny_loadName_local O.kind (O.par _ (List.mem_of_getElem? h0)) ns1 (rev_lookup O.nd h0 hu0) ?_
  -- the super object
  obtain ⟨oD, hoD, hoDc⟩ : ∃ oD, h1.get? D = some oD ∧ oD.data = .cls cdD := by
    unfold PySem.W.clsIn at hcls
    split at hcls
    · rename_i c d cd' sl ho
      cases hcls
      exact ⟨_, KI _ _ ho, rfl⟩
    · cases hcls
  refine PySem.ks_wpAny_isType_cls hoD hoDc ⟨rfl, ?_⟩
  have noC : ∀ c, (PySem.W.instObj D dx).data ≠ .cls c := fun c z => by cases z
  refine PySem.ks_wpAny_call_super hoD hoDc J.at_ J.cls (fun c z => ?_) (PySem.W.looks_mroIn KI O.sub) (fun h2 hso keep2 => ?_)
  · have := J.no
    unfold PySem.W.notCls at this
    rw [z] at this
    exact Bool.noConfusion this
  have I2 := ClX.pin_new (t' := s.toks + (ps.zip us).length) I keep2 (Nat.le_refl _) hso (fun v z => by cases z)
  have K2 := I2.kIn
  have hfind : PySem.W.alongIn K m ((cdD.mro.dropWhile (· != .ref D)).drop 1) = some (some (.ref f2)) := by
    have z := O.find
    unfold PySem.W.ks_superIn at z
    rw [hcls] at z
    exact z
  obtain ⟨of, hof, hofc⟩ : ∃ of, h2.get? f2 = some of ∧ of.cls = .type "function" := by
    have z : (K.lookup f2).map (·.cls) = some (.type "function") := O.fn2
    cases y : K.lookup f2 with
    | none => rw [y] at z; cases z
    | some of => rw [y] at z; exact ⟨of, K2 _ _ y, Option.some.inj z⟩
  have neD : a ≠ D := by
    rintro rfl
    rw [J.at_] at hoD
    cases hoD
    exact Data.noConfusion hoDc
  refine PySem.ks_wpAny_getMethod_super (C := D) (D := D) (f := f2) (x := a) hso (PySem.W.looks_opaque K2 O.third) (l₀ := cdD.mro) (fun A' Q' E' s' kk qq => wpAny_bind ((PySem.W.looks_clsIn K2 hcls) A' _ E' s' kk (wpAny_pure qq))) rfl K2 hfind hof hofc neD O.nm ?_
  have I3 := ClX.pin_new (s := { s with heap := h2, toks := s.toks + (ps.zip us).length }) (h' := h2.push { cls := .type "method", data := .fields #[.ref f2, .ref a] }) (a := h2.objs.size) (t' := s.toks + (ps.zip us).length + 1) I2 (fun b u z => Heap.get?_push_of_some _ z) (Nat.le_refl _) (Heap.get?_push_at rfl rfl) (fun v z => by cases z)
  -- the call of the bound method
  show wpAny (model X.prog X.w) X.A (callWith p3 (.ref h2.objs.size) [] (backTo p3 (starEach (e :: es) X.env)) []) _ _ _
  have args := hargs p3 _ _ I3
  rw [he] at args ⊢
  refine PySem.W.callWith_of (P := PySem.W.MethP K h2.objs.size f2 (.ref a)) (by show ((false || (backTo p3 (starEach es X.env)).any (·.1)) || false) = false; rw [hpl]; rfl) (PySem.W.keeps_M O.fi2) (Calls.evalArgs_plain (wpAny_mono args (fun ws s4 ⟨zs, H4, I4, r4, q4⟩ => ?_) fun _ _ z => False.elim z))
  refine ⟨⟨ClX.pin_at I4, I4.kIn⟩, wpAny_call (PySem.ks_codeAny_call_bound (ClX.pin_at I4) ?_)⟩
  have q5 : sp2 ((V.ref a :: zs) ++ []) H4 (fun _ H3 => Q .non H3) E0 := by rw [List.append_nil]; exact q4
  have F3 : Fk X.prog X.w X.K X.mg X.base CX0 j f2 fd2 ps2 sp2 := F2
  refine codeAny_mono (fk_code (X := X) (us := .ref a :: ws) (vs := V.ref a :: zs) (ds := []) (dvs := []) F3 (room2.mono hj) gd2 b2 .nil pass0 I4 (.cons rfl r4) q5) fun res s5 hq => ?_
  rcases res with er | fl
  · exact hq.elim
  · cases fl with
    | ret u =>
      obtain ⟨v, H5, I5, r5, q6⟩ := hq
      refine PySem.wpAt_of_wpAny (wpAny_execs_nil ?_)
      exact ⟨.non, H5, I5.os, I5.bare, I5.base, I5.hok, rfl, q6⟩
    | next => exact hq.elim
    | brk => exact hq.elim
    | cont => exact hq.elim
end Xi

/-! ## Repr -/
/-! repr of lists and tuples of flat things, nested ones. -/
namespace Xi
open PySem PySem.Spec PyProof.Rows L2

theorem app_len (a b : Str) : (a ++ b).length = a.length + b.length := by first | exact Str.length_append a b | simp
theorem textFrom_le {B : Nat} : ∀ (ts : List Str) (k : Nat) (acc : Str), (∀ t ∈ ts, t.length ≤ B) → (textFrom k acc ts).length ≤ acc.length + ts.length * (B + 2)
  | [], _, acc, _ => by show acc.length ≤ _; simp
  | t :: r, k, acc, h => by
    have ih := textFrom_le r (k + 1) (acc ++ (if k > 0 then ", " else "" : String) ++ t) fun x hx => h x (List.mem_cons_of_mem _ hx)
    have ht := h t List.mem_cons_self
    show (textFrom (k + 1) (acc ++ (if k > 0 then ", " else "" : String) ++ t) r).length ≤ _
    have e : (acc ++ (if k > 0 then ", " else "" : String) ++ t : Str).length ≤ acc.length + 2 + B := by
      rw [app_len, app_len]
      have : ((if k > 0 then ", " else "" : String) : Str).length ≤ 2 := by
        by_cases z : k > 0
        · rw [if_pos z]; decide +kernel
        · rw [if_neg z]; decide +kernel
      omega
    rw [List.length_cons, Nat.succ_mul]
    omega
theorem shownAll_mem {B : Nat} : ∀ {ds : List PyData}, (∀ d ∈ ds, d.shown.length ≤ B) → ∀ t ∈ PyData.shownAll ds, t.length ≤ B
  | [], _, t, h => by simp [PyData.shownAll] at h
  | d :: ds, h, t, ht => by
    simp only [PyData.shownAll] at ht
    rcases List.mem_cons.mp ht with e | ht
    · rw [e]; exact h d List.mem_cons_self
    · exact shownAll_mem (fun x hx => h x (List.mem_cons_of_mem _ hx)) t ht
theorem shownAll_len : ∀ (ds : List PyData), (PyData.shownAll ds).length = ds.length
  | [] => rfl
  | d :: ds => by simp only [PyData.shownAll, List.length_cons, shownAll_len ds]
theorem list_le {ds : List PyData} {B n : Nat} (h : ∀ d ∈ ds, d.shown.length ≤ B) (hn : ds.length ≤ n) : (PyData.list ds).shown.length ≤ n * (B + 2) + 2 := by
  show (listText (PyData.shownAll ds)).length ≤ _
  unfold listText
  rw [app_len]
  have t := textFrom_le (PyData.shownAll ds) 0 "[" (shownAll_mem h)
  rw [shownAll_len] at t
  have e1 : (("[" : String) : Str).length = 1 := by decide +kernel
  have e2 : (("]" : String) : Str).length = 1 := by decide +kernel
  have m := Nat.mul_le_mul_right (B + 2) hn
  rw [e1] at t
  rw [e2]
  omega
theorem join_le {B : Nat} : ∀ (ts : List Str), (∀ t ∈ ts, t.length ≤ B) → (Str.join ", " ts).length ≤ ts.length * (B + 2)
  | [], _ => by have : (Str.join ", " []).length = 0 := by decide +kernel
                omega
  | x :: r, h => by
    have p := join_length_add (x :: r) (by simp)
    have q : ∀ (l : List Str), (∀ t ∈ l, t.length ≤ B) → piled l ≤ l.length * (B + 2) := by
      intro l
      induction l with
      | nil => intro _; simp [piled]
      | cons a l ih =>
        intro hl
        have h1 := hl a List.mem_cons_self
        have h2 := ih fun t ht => hl t (List.mem_cons_of_mem _ ht)
        simp only [piled, List.length_cons, Nat.succ_mul]
        simp [piled] at h2 ⊢
        omega
    have := q (x :: r) h
    omega
theorem tuple_le {ds : List PyData} {B n : Nat} (h : ∀ d ∈ ds, d.shown.length ≤ B) (hn : ds.length ≤ n) : (PyData.tuple ds).shown.length ≤ n * (B + 2) + 3 := by
  show (tupleText (PyData.shownAll ds)).length ≤ _
  unfold tupleText
  rw [app_len, app_len]
  have t := join_le (PyData.shownAll ds) (shownAll_mem h)
  rw [shownAll_len] at t
  have e1 : (("(" : String) : Str).length = 1 := by decide +kernel
  have e2 : ((if (PyData.shownAll ds).length == 1 then ",)" else ")" : String) : Str).length ≤ 2 := by
    cases ((PyData.shownAll ds).length == 1) <;> decide +kernel
  have m := Nat.mul_le_mul_right (B + 2) hn
  omega
theorem int_le {i : Int} (h : i.natAbs.log2 < 1920) : (PyData.int i).shown.length ≤ 1921 := by
  have := int_text_len_1921 h
  simpa [PyData.shown] using this

section
variable {X : Cx} {H0 : Hp} {M : Addr → Prop} {L : LL} {Q : V → LL → Prop} {k : Nat}
/-- repr(x), x a list or a tuple -/
theorem call_reprD (hr : Room k X.A) (gd : X.A.guards = some []) : CallR X (.builtin "repr") (fun xs H Q => ∃ p d, xs = [.ref p] ∧ Dp X.K H (.ref p) d ∧ d.showable = true ∧ d.hasDict = false ∧ d.depth ≤ 60 ∧ d.shown.length ≤ sizeLine ∧ Q (.str d.shown) H) := by
  intro pins s σ H xs us Q I r h
  obtain ⟨p, d, rfl, dp, sh, nd, dh, sz, q⟩ := h
  obtain ⟨u, rfl, ru⟩ : ∃ u, us = [u] ∧ RelV (.ref p) u := by
    cases r with
    | cons a b => cases b; exact ⟨_, rfl, a⟩
  obtain ⟨as, rd⟩ := Dp.reads I d _ u dp ru
  obtain rfl : u = Value.ref p := ru
  refine repr_of_reads' rd sh (fun z => by rw [nd] at z; cases z) gd (by have := hr.un; omega) (fun _ _ z => z) (fun h' u tk kp => ?_) sz
  exact ⟨.str d.shown, H, I.kept kp, ⟨u, rfl⟩, q⟩
theorem rc_repr {p : Addr} {d : PyData} (hr : Room k X.A) (gd : X.A.guards = some []) (dp : ∀ H, Hs H0 M L H → Dp X.K H (.ref p) d) (sh : d.showable = true) (nd : d.hasDict = false) (dh : d.depth ≤ 60) (sz : d.shown.length ≤ sizeLine) (h : Q (.str d.shown) L) :
    rc X H0 M (.builtin "repr") [.ref p] L Q := rc_of (call_reprD hr gd) fun H z => ⟨p, d, rfl, dp H z, sh, nd, dh, sz, L, z, h⟩
end
end Xi

/-! ## Ret -/
/-! How promises end: what a def leaves. -/
namespace Xi
open PySem PySem.Spec PyProof.Rows L2

/-- v comes out; N new objects, all else stands -/
def RetP (H : Hp) (Q : VK) (v : V) (N : LL) : Prop := ∀ H', Ext H H' → News H H' N → Q v H'
/-- v comes out; at a stands o', N new objects, all else stands -/
def RetC (H : Hp) (Q : VK) (v : V) (a : Addr) (o' : HO) (N : LL) : Prop := ∀ H', Chg H H' a o' N → Q v H'
section
variable {H0 H H' : Hp} {M : Addr → Prop} {L L' N : LL} {Q : V → LL → Prop} {v : V} {a p q : Addr} {o o' u : HO} {g : HO → LL}
/-- the caller goes on -/
theorem Hs.pp (h : Hs H0 M L H) (k : Q v (N ++ L)) : RetP H (up H0 M Q) v N := fun _ e n => ⟨_, h.more e n, k⟩
theorem Hs.cc (h : Hs H0 M L H) (s : Spot L a o g) (c : H0 a = none ∨ M a) (k : Q v (N ++ g o')) : RetC H (up H0 M Q) v a o' N := fun _ x => ⟨_, h.chg s c x, k⟩
theorem Hs.p0 (h : Hs H0 M L H) (k : Q v L) : RetP H (up H0 M Q) v [] := fun _ e n => ⟨_, h.ext e, k⟩
theorem Hs.c0 (h : Hs H0 M L H) (s : Spot L a o g) (c : H0 a = none ∨ M a) (k : Q v (g o')) : RetC H (up H0 M Q) v a o' [] := fun _ x => ⟨_, h.chg s c x, k⟩
theorem ne_at (h : Hs H0 M L H) {a b : Addr} (h1 : H a = some o) (h2 : H b = some u) (n : o ≠ u) : a ≠ b := ne_of h1 h2 n
theorem News.one (n : H p = none) (e : H' p = some o) : News H H' [(p, o)] := ⟨by simp, fun q hq => by rw [List.mem_singleton.mp hq]; exact n, fun q hq => by rw [List.mem_singleton.mp hq]; exact e⟩
theorem News.two (ne : p ≠ q) (n : H p = none) (m : H q = none) (e : H' p = some o) (f : H' q = some u) : News H H' [(p, o), (q, u)] := ⟨by simp [ne], fun x hx => by
  rcases List.mem_cons.mp hx with z | z
  · rw [z]; exact n
  · rw [List.mem_singleton.mp z]; exact m, fun x hx => by
  rcases List.mem_cons.mp hx with z | z
  · rw [z]; exact e
  · rw [List.mem_singleton.mp z]; exact f⟩
/-- the callee ends -/
theorem Hs.ext0 (h : Hs H0 (fun _ => False) L H) : Ext H0 H := fun b u e => h.fr b u e id
theorem RetP.e0 {Q : VK} (k : RetP H0 Q v []) (h : Hs H0 (fun _ => False) L H) : Q v H := k H h.ext0 .nil
theorem RetP.e1 {Q : VK} (k : RetP H0 Q v [(p, o)]) (n : H0 p = none) (h : Hs H0 (fun _ => False) L H) (m : At L p o) : Q v H := k H h.ext0 (.one n (h.get m))
theorem RetP.e2 {Q : VK} (k : RetP H0 Q v [(p, o), (q, u)]) (ne : p ≠ q) (n : H0 p = none) (n2 : H0 q = none) (h : Hs H0 (fun _ => False) L H) (m : At L p o) (m2 : At L q u) : Q v H := k H h.ext0 (.two ne n n2 (h.get m) (h.get m2))
theorem Hs.chg0 (h : Hs H0 (fun x => x = a) L H) (m : At L a o) (n : News H0 H N) : Chg H0 H a o N := ⟨fun b u e ne => h.fr b u e ne, h.get m, n⟩
theorem RetC.e0 {Q : VK} (k : RetC H0 Q v a o []) (h : Hs H0 (fun x => x = a) L H) (m : At L a o) : Q v H := k H (h.chg0 m .nil)
theorem RetC.e1 {Q : VK} (k : RetC H0 Q v a o [(p, u)]) (n : H0 p = none) (h : Hs H0 (fun x => x = a) L H) (m : At L a o) (m2 : At L p u) : Q v H := k H (h.chg0 m (.one n (h.get m2)))
theorem RetC.e2 {Q : VK} {r : Addr} {w : HO} (k : RetC H0 Q v a o [(p, u), (r, w)]) (ne : p ≠ r) (n : H0 p = none) (n2 : H0 r = none) (h : Hs H0 (fun x => x = a) L H) (m : At L a o) (m2 : At L p u) (m3 : At L r w) : Q v H := k H (h.chg0 m (.two ne n n2 (h.get m2) (h.get m3)))
/-- the entry -/
theorem Hs.any (h : ∀ q ∈ L, H q.1 = some q.2) : Hs H (fun _ => False) L H := ⟨by
  rw [List.pairwise_map]
  exact List.pairwise_of_forall_mem_list (fun q hq r _ => .inr ⟨by rw [h q hq]; exact (fun z => nomatch z), id⟩), h, fun _ _ e _ => e, fun _ f => f.elim⟩
/-- .. one may change, the others stand -/
theorem Hs.anyM (ha : H a = some o) (h : ∀ q ∈ L, H q.1 = some q.2) (n : ∀ q ∈ L, q.1 ≠ a) : Hs H (fun x => x = a) ((a, o) :: L) H := ⟨by
  rw [List.map_cons, List.pairwise_cons, List.pairwise_map]
  refine ⟨fun b hb => ?_, List.pairwise_of_forall_mem_list (fun q hq r _ => .inr ⟨by rw [h q hq]; exact (fun z => nomatch z), n q hq⟩)⟩
  obtain ⟨q, hq, rfl⟩ := List.mem_map.mp hb
  exact .inl (n q hq).symm, fun q hq => by
  rcases List.mem_cons.mp hq with z | z
  · rw [z]; exact ha
  · exact h q z, fun _ _ e _ => e, fun b e => ⟨o, by rw [e]; exact ha⟩⟩
theorem Hs.s1 (h : H a = some o) : Hs H (fun _ => False) [(a, o)] H := ⟨by simp, by simp [h], fun _ _ e _ => e, fun _ f => f.elim⟩
theorem Hs.s0 : Hs H (fun _ => False) [] H := ⟨by simp, by simp, fun _ _ e _ => e, fun _ f => f.elim⟩
theorem Hs.s2 (ne : a ≠ p) (h : H a = some o) (h2 : H p = some u) : Hs H (fun _ => False) [(a, o), (p, u)] H := ⟨by simp [ne], by simp [h, h2], fun _ _ e _ => e, fun _ f => f.elim⟩
theorem Hs.m1 (h : H a = some o) : Hs H (fun x => x = a) [(a, o)] H := ⟨by simp, by simp [h], fun _ _ e _ => e, fun b e => ⟨o, by rw [e]; exact h⟩⟩
theorem Hs.m2 (ne : a ≠ p) (h : H a = some o) (h2 : H p = some u) : Hs H (fun x => x = a) [(a, o), (p, u)] H := ⟨by simp [ne], by simp [h, h2], fun _ _ e _ => e, fun b e => ⟨o, by rw [e]; exact h⟩⟩
theorem Hs.m3 {r : Addr} {w : HO} (ne : a ≠ p) (ne2 : a ≠ r) (ne3 : p ≠ r) (h : H a = some o) (h2 : H p = some u) (h3 : H r = some w) : Hs H (fun x => x = a) [(a, o), (p, u), (r, w)] H :=
  ⟨by simp [ne, ne2, ne3], by simp [h, h2, h3], fun _ _ e _ => e, fun b e => ⟨o, by rw [e]; exact h⟩⟩
theorem At.apart {L : LL} {a b : Addr} {o u : HO} (h : Hs H0 M L H) (x : At L a o) (y : At L b u) (d : o ≠ u) : a ≠ b := ne_of (h.get x) (h.get y) d
end
theorem lst_ne {xs ys : List V} (h : xs.length ≠ ys.length) : HO.lst xs ≠ HO.lst ys := fun e => h (by cases e; rfl)
/-- a def of the module as the top has left it -/
structure FunM (K : PySem.W.Frag) (mg : Str → Option Value) (x : Str) (st : Stmt) : Prop where
  ex : ∃ f fd, Fun K x x st f fd ∧ mg x = some (.ref f)
/-- a method, found at one place by the classes of a family -/
structure FunC (K : PySem.W.Frag) (Cs : Addr → Prop) (m qual : Str) (st : Stmt) : Prop where
  ex : ∃ f fd, Fun K m qual st f fd ∧ ∀ C, Cs C → Meth K C m f
structure FunP (K : PySem.W.Frag) (Cs : Addr → Prop) (m qual : Str) (st : Stmt) : Prop where
  ex : ∃ f fd, Fun K m qual st f fd ∧ ∀ C, Cs C → ∃ p, PropOf K C m p f
structure FunO (K : PySem.W.Frag) (Cs : Addr → Prop) (qual : Str) (st : Stmt) : Prop where
  ex : ∃ f fd, Fun K "__call__" qual st f fd ∧ ∀ C, Cs C → StX.CallO K C f
structure FunI (K : PySem.W.Frag) (mg : Str → Option Value) (x : Str) (C : Addr) (qual : Str) (st : Stmt) : Prop where
  ex : ∃ f fd, Fun K "__init__" qual st f fd ∧ mg x = some (.ref C) ∧ Mk K C f
/-- isinstance of plain values -/
theorem rc_isi {X : Cx} {H0 : Hp} {M : Addr → Prop} {L : LL} {Q : V → LL → Prop} {x c : V} {t u : Value} {b : Bool} (h1 : ClsV c u) (h2 : ∀ H, Hs H0 M L H → TyX X.K H x t) (h3 : PySem.W.kitOne X.K t u = some b) (h : Q (.bl b) L) : rc X H0 M (.builtin "isinstance") [x, c] L Q :=
  rc_of call_isi fun H z => ⟨x, c, t, u, b, rfl, h1, h2 H z, h3, L, z, h⟩
end Xi

/-! ## Go -/
/-! Calls from a running body. -/
namespace Xi
open PySem PySem.Spec PyProof.Rows L2
abbrev EE : XK := fun _ _ _ => False
theorem px0 {X : Cx} {E : XK} : Passes CX0 X E := fun _ _ _ _ _ _ _ h => h.elim
section
variable {X : Cx} {P : Program} {w : World} {K : PySem.W.Frag} {mg : Str → Option Value} {base : Heap} {k j : Nat} {N Nv : List Str} {sc : Scope} {sp : Sp} {x m : Str} {C : Addr} {Cs : Addr → Prop}
variable {p pos apos : Pos} {e o fe : Expr} {es : List Expr} {H0 : Hp} {M : Addr → Prop} {L : LL} {σ : L2.St} {Q : V → LL → Prop}
theorem Body.call (bd : Body X P w K mg base k N Nv sc) (D : DefT P w K mg base CX0 j x sp) (hj : Nat.ble j k = true) (hg : sc.names.lookup x = some .globalImplicit) (he : starEach (e :: es) X.env = (false, eval e X.env) :: starEach es X.env) (hpl : (backTo pos (starEach es X.env)).any (·.1) = false)
    (h : ka X H0 M (e :: es) σ L fun vs L1 => rs H0 M sp EE vs L1 Q) (hdb : (x == ("__debug__" : Str)) = false) : ke X H0 M (.Call (.Name x p) (e :: es) [] pos) σ L Q :=
  ke_call (bd.df D) (bd.rm (Nat.le_of_ble_eq_true hj)) bd.gd px0 (bd.gl hg) he hpl h hdb
theorem Body.call0 (bd : Body X P w K mg base k N Nv sc) (D : DefT P w K mg base CX0 j x sp) (hj : Nat.ble j k = true) (hg : sc.names.lookup x = some .globalImplicit)
    (h : rs H0 M sp EE [] L Q) (hdb : (x == ("__debug__" : Str)) = false) : ke X H0 M (.Call (.Name x p) [] [] pos) σ L Q :=
  ke_call0 (bd.df D) (bd.rm (Nat.le_of_ble_eq_true hj)) bd.gd px0 (bd.gl hg) h hdb
theorem Body.meth (bd : Body X P w K mg base k N Nv sc) (D : MethT P w K mg base CX0 j Cs m sp) (hj : Nat.ble j k = true)
    (he : starEach (e :: es) X.env = (false, eval e X.env) :: starEach es X.env) (hpl : (backTo pos (starEach es X.env)).any (·.1) = false)
    (ht : ∃ pl : Sem Bool, eval (.Call (.Attribute o m apos) (e :: es) [] pos) X.env = (do
      let ov ← eval o X.env
      standAt apos.atName
      let (f, first) ← holding [ov] (getMethod ov m pl)
      callWith pos f first (backTo pos (starEach (e :: es) X.env)) (backToKw pos (keywordEach [] X.env))))
    (h : ke X H0 M o σ L fun y L1 => ∃ a C dx fs, y = .ref a ∧ At L1 a (.ins C dx fs) ∧ Cs C ∧ fs.lookup m = none ∧ ka X H0 M (e :: es) σ L1 fun vs L2 => rs H0 M sp EE (.ref a :: vs) L2 Q) :
    ke X H0 M (.Call (.Attribute o m apos) (e :: es) [] pos) σ L Q := let ⟨_, ht⟩ := ht; ke_meth (bd.mt D) (bd.rm (Nat.le_of_ble_eq_true hj)) bd.gd px0 he hpl ht h
theorem Body.meth0 (bd : Body X P w K mg base k N Nv sc) (D : MethT P w K mg base CX0 j Cs m sp) (hj : Nat.ble j k = true)
    (ht : ∃ pl : Sem Bool, eval (.Call (.Attribute o m apos) [] [] pos) X.env = (do
      let ov ← eval o X.env
      standAt apos.atName
      let (f, first) ← holding [ov] (getMethod ov m pl)
      callWith pos f first (backTo pos (starEach [] X.env)) (backToKw pos (keywordEach [] X.env))))
    (h : ke X H0 M o σ L fun y L1 => ∃ a C dx fs, y = .ref a ∧ At L1 a (.ins C dx fs) ∧ Cs C ∧ fs.lookup m = none ∧ rs H0 M sp EE [.ref a] L1 Q) :
    ke X H0 M (.Call (.Attribute o m apos) [] [] pos) σ L Q := let ⟨_, ht⟩ := ht; ke_meth0 (bd.mt D) (bd.rm (Nat.le_of_ble_eq_true hj)) bd.gd px0 ht h
theorem Body.callO (bd : Body X P w K mg base k N Nv sc) (D : CallT P w K mg base CX0 j Cs sp) (hj : Nat.ble j k = true)
    (ht : eval (.Call fe (e :: es) [] pos) X.env = (do callWith pos (← eval fe X.env) [] (backTo pos (starEach (e :: es) X.env)) (backToKw pos (keywordEach [] X.env))))
    (he : starEach (e :: es) X.env = (false, eval e X.env) :: starEach es X.env) (hpl : (backTo pos (starEach es X.env)).any (·.1) = false)
    (h : ke X H0 M fe σ L fun y L1 => ∃ a, y = .ref a ∧ ka X H0 M (e :: es) σ L1 fun vs L2 => (∃ C dx fs, At L2 a (.ins C dx fs) ∧ Cs C) ∧ rs H0 M sp EE (.ref a :: vs) L2 Q) :
    ke X H0 M (.Call fe (e :: es) [] pos) σ L Q := ke_callO (bd.co D) (bd.rm (Nat.le_of_ble_eq_true hj)) bd.gd px0 ht he hpl h
theorem Body.make (bd : Body X P w K mg base k N Nv sc) (D : MakeT P w K mg base CX0 j x C sp) (hj : Nat.ble (j + 1) k = true) (hg : sc.names.lookup x = some .globalImplicit) (he : starEach (e :: es) X.env = (false, eval e X.env) :: starEach es X.env) (hpl : (backTo pos (starEach es X.env)).any (·.1) = false)
    (h : ka X H0 M (e :: es) σ L fun vs L1 => ∀ y dy, H0 y = none → H0 dy = none → rs H0 M sp EE (.ref y :: vs) ((y, .ins C dy []) :: (dy, .own y) :: L1) fun v L2 => v = .non ∧ Q (.ref y) L2)
    (hdb : (x == ("__debug__" : Str)) = false) : ke X H0 M (.Call (.Name x p) (e :: es) [] pos) σ L Q :=
  ke_make (bd.mk' D) (bd.rm (Nat.le_of_ble_eq_true hj)) bd.gd px0 (bd.gl hg) he hpl h hdb
theorem Body.prop {f : Str} (bd : Body X P w K mg base k N Nv sc) (D : PropT P w K mg base CX0 j Cs f sp) (hj : Nat.ble (j + 1) k = true) (hab : attributeBase e f X.env (eval e X.env) = eval e X.env)
    (h : ke X H0 M e σ L fun y L1 => ∃ a C dx fs, y = .ref a ∧ At L1 a (.ins C dx fs) ∧ Cs C ∧ rs H0 M sp EE [.ref a] L1 Q) : ke X H0 M (.Attribute e f pos) σ L Q :=
  ke_prop (bd.pr D) (bd.rm (Nat.le_of_ble_eq_true hj)) bd.gd px0 hab h
end
section
variable {P : Program} {w : World} {K : PySem.W.Frag} {mg : Str → Option Value} {base : Heap} {k : Nat} {x m qual : Str} {st : Stmt} {sp : Sp} {ps : List Str} {Cs : Addr → Prop} {C : Addr}
/-- the promise of a def, of a method .. by that of its code -/
theorem FunM.ok (F : FunM K mg x st) (b : ∀ f fd, Fun K x x st f fd → Binds K fd ps []) (h : ∀ f fd, Fun K x x st f fd → Fk P w K mg base CX0 k f fd ps sp) : DefT P w K mg base CX0 k x sp := by
  obtain ⟨f, fd, F, hm⟩ := F.ex
  exact ⟨f, fd, ps, h f fd F, hm, F.kp, b f fd F⟩
theorem FunC.ok (F : FunC K Cs m qual st) (hc : ∀ C, Cs C → Cls K C) (b : ∀ f fd, Fun K m qual st f fd → Binds K fd ps []) (h : ∀ f fd, Fun K m qual st f fd → Fk P w K mg base CX0 k f fd ps sp) : MethT P w K mg base CX0 k Cs m sp := by
  obtain ⟨f, fd, F, hm⟩ := F.ex
  exact ⟨f, fd, ps, h f fd F, fun C c => ⟨hc C c, hm C c⟩, b f fd F⟩
theorem FunP.ok (F : FunP K Cs m qual st) (hc : ∀ C, Cs C → Cls K C) (b : ∀ f fd, Fun K m qual st f fd → Binds K fd ps []) (h : ∀ f fd, Fun K m qual st f fd → Fk P w K mg base CX0 k f fd ps sp) : PropT P w K mg base CX0 k Cs m sp := by
  obtain ⟨f, fd, F, hm⟩ := F.ex
  exact ⟨f, fd, ps, h f fd F, fun C c => ⟨hc C c, hm C c⟩, b f fd F⟩
theorem FunO.ok (F : FunO K Cs qual st) (b : ∀ f fd, Fun K "__call__" qual st f fd → Binds K fd ps []) (h : ∀ f fd, Fun K "__call__" qual st f fd → Fk P w K mg base CX0 k f fd ps sp) : CallT P w K mg base CX0 k Cs sp := by
  obtain ⟨f, fd, F, hm⟩ := F.ex
  exact ⟨f, fd, ps, h f fd F, hm, b f fd F⟩
theorem FunI.ok (F : FunI K mg x C qual st) (b : ∀ f fd, Fun K "__init__" qual st f fd → Binds K fd ps []) (h : ∀ f fd, Fun K "__init__" qual st f fd → Fk P w K mg base CX0 k f fd ps sp) : MakeT P w K mg base CX0 k x C sp := by
  obtain ⟨f, fd, F, hm, mk⟩ := F.ex
  exact ⟨f, fd, ps, h f fd F, hm, mk, b f fd F⟩
end
/-! ### ways that are known -/
section
variable {A B : Prop} {p : Prop} [Decidable p]
theorem pickB_T (h : A) : PickB true A B := pickB_Y rfl h
theorem pickB_F (h : B) : PickB false A B := pickB_N rfl h
theorem pickB_nT (h : B) : PickB (!true) A B := pickB_N rfl h
theorem pickB_nF (h : A) : PickB (!false) A B := pickB_Y rfl h
theorem pickB_dY (c : p) (h : A) : PickB (decide p) A B := pickB_Y (decide_eq_true c) h
theorem pickB_dN (c : ¬ p) (h : B) : PickB (decide p) A B := pickB_N (decide_eq_false c) h
theorem pickB_eY (c : p) (h : B) : PickB (!decide p) A B := pickB_N (by rw [decide_eq_true c]; rfl) h
theorem pickB_eN (c : ¬ p) (h : A) : PickB (!decide p) A B := pickB_Y (by rw [decide_eq_false c]; rfl) h
theorem pick_dY (c : p) (h : A) : Pick (.bl (decide p)) A B := pick_Y (decide_eq_true c) h
theorem pick_dN (c : ¬ p) (h : B) : Pick (.bl (decide p)) A B := pick_N (decide_eq_false c) h
theorem pick_eY (c : p) (h : B) : Pick (.bl (!decide p)) A B := pick_N (by rw [decide_eq_true c]; rfl) h
theorem pick_eN (c : ¬ p) (h : A) : Pick (.bl (!decide p)) A B := pick_Y (by rw [decide_eq_false c]; rfl) h
theorem pick_nT (h : B) : Pick (.bl (!true)) A B := pick_N rfl h
theorem pick_nF (h : A) : Pick (.bl (!false)) A B := pick_Y rfl h
end
end Xi

/-! ## Seq -/
/-! Subscripts by what all parts are. -/
namespace Xi
open PySem PySem.Spec PyProof.Rows L2
theorem atI_in {α : Type} {xs : List α} {i : Int} (h0 : 0 ≤ i) (h1 : i < xs.length) : ∃ v, atI xs i = some v ∧ v ∈ xs ∧ xs[i.toNat]? = some v := by
  have hl : i.toNat < xs.length := by omega
  refine ⟨xs[i.toNat], ?_, List.getElem_mem hl, List.getElem?_eq_getElem hl⟩
  unfold atI ixN
  rw [if_pos h0, if_pos h1]
  exact List.getElem?_eq_getElem hl
theorem atI_last {α : Type} {xs : List α} {v : α} : atI (xs ++ [v]) (-1) = some v := by
  unfold atI ixN
  have h : -(((xs ++ [v]).length : Nat) : Int) ≤ -1 := by rw [List.length_append, List.length_singleton]; omega
  rw [if_neg (by decide), if_pos h]
  show (xs ++ [v])[(-1 + ((xs ++ [v]).length : Int)).toNat]? = some v
  have e : (-1 + ((xs ++ [v]).length : Int)).toNat = xs.length := by rw [List.length_append, List.length_singleton]; omega
  rw [e, List.getElem?_append_right (Nat.le_refl _), Nat.sub_self]
  rfl
section
variable {K : PySem.W.Frag} {H0 : Hp} {M : Addr → Prop} {L : LL} {Q : V → LL → Prop} {p : Addr} {i : Int} {xs : List V}
theorem ix_P (P : V → Prop) (h : Aq L p fun o => ∃ xs, o = .lst xs ∧ 0 ≤ i ∧ i < xs.length ∧ (∀ v ∈ xs, P v) ∧ ∀ v, P v → Q v L) : Ix K H0 M (.ref p) (.int i) L Q := by
  obtain ⟨o, ia, xs, rfl, h0, h1, hp, k⟩ := h
  obtain ⟨v, e, m, _⟩ := atI_in h0 h1
  exact ix_lst ia e (k v (hp v m))
/-- .. all parts numbers -/
theorem ix_I (P : Int → Prop) (h : Aq L p fun o => ∃ is : List Int, o = .lst (is.map V.int) ∧ 0 ≤ i ∧ i < is.length ∧ (∀ v ∈ is, P v) ∧ ∀ v, P v → Q (.int v) L) : Ix K H0 M (.ref p) (.int i) L Q := by
  obtain ⟨o, ia, is, rfl, h0, h1, hp, k⟩ := h
  obtain ⟨v, e, m, _⟩ := atI_in (xs := is.map V.int) h0 (by rw [List.length_map]; exact h1)
  obtain ⟨x, hx, rfl⟩ := List.mem_map.mp m
  exact ix_lst ia e (k x (hp x hx))
theorem ix_scrI {ns : List Int} (r : SqL K H0 p (ns.map V.int)) (m : ¬ M p) (h0 : 0 ≤ i) (h1 : i < ns.length) (k : ∀ x, Q (.int x) L) : Ix K H0 M (.ref p) (.int i) L Q := by
  obtain ⟨v, e, mm, _⟩ := atI_in (xs := ns.map V.int) h0 (by rw [List.length_map]; exact h1)
  obtain ⟨x, hx, rfl⟩ := List.mem_map.mp mm
  exact ix_scr r m e (k x)
theorem ix_last (h : Aq L p fun o => ∃ xs v, o = .lst (xs ++ [v]) ∧ Q v L) : Ix K H0 M (.ref p) (.int (-1)) L Q := by
  obtain ⟨o, ia, xs, v, rfl, k⟩ := h
  exact ix_lst ia atI_last k
end
theorem ix_bool {K : PySem.W.Frag} {H0 : Hp} {M : Addr → Prop} {L : LL} {Q : V → LL → Prop} {p : Addr} {g : Bool} (h : Aq L p fun o => ∃ a b, o = .lst [a, b] ∧ Q (if g = true then b else a) L) : Ix K H0 M (.ref p) (.int (if g = true then 1 else 0)) L Q := by
  obtain ⟨o, ia, a, b, rfl, k⟩ := h
  cases g
  · exact ix_lst ia (i := 0) rfl k
  · exact ix_lst ia (i := 1) rfl k
/-- what is no longer used is forgotten -/
theorem kb_sub {X : Cx} {H0 : Hp} {M : Addr → Prop} {L L' : LL} {ss : List Stmt} {σ : L2.St} {nx : L2.St → LL → Prop} {rt : V → LL → Prop} {bk ct : L2.St → LL → Prop} (s : Sub L' L) (h : kb X H0 M ss nx rt bk ct σ L') : kb X H0 M ss nx rt bk ct σ L := fun H z => h H (z.sub s)
/-- two places -/
inductive Two : LL → Addr → Addr → Prop where
  | l {L : LL} {a b : Addr} {o u : HO} (h : At L b u) : Two ((a, o) :: L) a b
  | r {L : LL} {a b : Addr} {o u : HO} (h : At L a u) : Two ((b, o) :: L) a b
  | t {L : LL} {a b : Addr} {q : Addr × HO} (h : Two L a b) : Two (q :: L) a b
theorem Two.ne' {L : LL} {a b : Addr} {R : Addr → Prop} (h : Two L a b) : (L.map (·.1)).Pairwise (fun a b => a ≠ b ∨ R a) → ¬ R a ∨ ¬ R b → a ≠ b := by
  induction h with
  | l h =>
    rintro nd c rfl
    exact ((List.pairwise_cons.mp nd).1 _ (List.mem_map.mpr ⟨_, h.mem, rfl⟩)).elim (fun z => z rfl) fun r => c.elim (fun z => z r) fun z => z r
  | r h =>
    rintro nd c rfl
    exact ((List.pairwise_cons.mp nd).1 _ (List.mem_map.mpr ⟨_, h.mem, rfl⟩)).elim (fun z => z rfl) fun r => c.elim (fun z => z r) fun z => z r
  | t _ ih => exact fun nd => ih (List.pairwise_cons.mp nd).2
theorem Two.ne {L : LL} {a b : Addr} {H0 : Hp} {M : Addr → Prop} (h : Two L a b) (nd : (L.map (·.1)).Pairwise (fun a b => a ≠ b ∨ (H0 a ≠ none ∧ ¬ M a))) (c : H0 a = none ∨ M a) : a ≠ b := h.ne' nd (.inl (put_not c))
theorem Two.ne2 {L : LL} {a b : Addr} {H0 : Hp} {M : Addr → Prop} (h : Two L a b) (nd : (L.map (·.1)).Pairwise (fun a b => a ≠ b ∨ (H0 a ≠ none ∧ ¬ M a))) (c : (H0 a = none ∨ M a) ∨ (H0 b = none ∨ M b)) : a ≠ b := h.ne' nd (c.imp put_not put_not)
theorem app_1 {L : LL} {a : Addr} {ys : List V} {B : Addr → Prop} (ia : At L a (.lst ys)) (h : B a) : ∃ q ys, V.ref a = .ref q ∧ At L q (.lst ys) ∧ B q := ⟨a, ys, rfl, ia, h⟩
theorem app_2 {H0 : Hp} {M : Addr → Prop} {L : LL} {a : Addr} {xs : List V} {v : V} {g : HO → LL} {B : LL → Prop} (s : Spot L a (.lst xs) g) (c : H0 a = none ∨ M a) (hl : xs.length < sizeLine) (h : B (g (.lst (xs ++ [v])))) :
    ∃ xs g, Spot L a (.lst xs) g ∧ (H0 a = none ∨ M a) ∧ xs.length < sizeLine ∧ B (g (.lst (xs ++ [v]))) := ⟨xs, g, s, c, hl, h⟩
/-! ### repr of flat lists and tuples -/
/-- a plain value with its text -/
inductive Fl : V → PyData → Prop where
  | int {i : Int} (h : i.natAbs.log2 < 1920) : Fl (.int i) (.int i)
  | str {x : Str} (h : (PyData.str x).shown.length ≤ 1921 ∧ PyData.strOk x = true) : Fl (.str x) (.str x)
  | non : Fl .non .none
  | bl {b : Bool} : Fl (.bl b) (.bool b)
inductive Fls : List V → List PyData → Prop where
  | nil : Fls [] []
  | cons {v : V} {d : PyData} {vs : List V} {ds : List PyData} (h : Fl v d) (t : Fls vs ds) : Fls (v :: vs) (d :: ds)
section
variable {K : PySem.W.Frag} {H : Hp} {vs : List V} {ds : List PyData} {v : V} {d : PyData}
theorem Fl.dp (h : Fl v d) : Dp K H v d := by
  cases h with
  | int h => exact .int _
  | str h => exact .str _
  | non => exact .non
  | bl => exact .bl _
theorem Fls.dp (h : Fls vs ds) : DpAll K H vs ds := by
  induction h with
  | nil => exact .nil
  | cons h _ ih => exact .cons h.dp ih
theorem Fl.facts (h : Fl v d) : d.showable = true ∧ d.hasDict = false ∧ d.depth ≤ 1 ∧ d.shown.length ≤ 1921 := by
  cases h with
  | int h => exact ⟨by simp [PyData.showable, h], by simp [PyData.hasDict], by simp [PyData.depth], int_le h⟩
  | str h => exact ⟨by simp [PyData.showable], by simp [PyData.hasDict], by simp [PyData.depth], h.1⟩
  | non => exact ⟨by simp [PyData.showable], by simp [PyData.hasDict], by simp [PyData.depth], by decide +kernel⟩
  | @bl b => exact ⟨by simp [PyData.showable], by simp [PyData.hasDict], by simp [PyData.depth], by cases b <;> decide +kernel⟩
theorem Fls.facts (h : Fls vs ds) : PyData.showableAll ds = true ∧ PyData.hasDictAll ds = false ∧ PyData.depthAll ds ≤ 1 ∧ ∀ d ∈ ds, d.shown.length ≤ 1921 := by
  induction h with
  | nil => exact ⟨by simp [PyData.showableAll], by simp [PyData.hasDictAll], by simp [PyData.depthAll], fun _ h => (nomatch h)⟩
  | cons h _ ih =>
    obtain ⟨a, b, c, e⟩ := h.facts
    obtain ⟨a2, b2, c2, e2⟩ := ih
    refine ⟨by simp [PyData.showableAll, a, a2], by simp [PyData.hasDictAll, b, b2], by simp only [PyData.depthAll]; omega, fun x hx => ?_⟩
    rcases List.mem_cons.mp hx with z | z
    · rw [z]; exact e
    · exact e2 x z
end
section
variable {X : Cx} {H0 : Hp} {M : Addr → Prop} {L : LL} {Q : V → LL → Prop} {k : Nat} {p : Addr} {vs : List V} {ds : List PyData}
theorem rc_reprL (hr : Room k X.A) (gd : X.A.guards = some []) (ia : At L p (.lst vs)) (f : Fls vs ds) (hn : Nat.ble ds.length 100 = true) (h : Q (.str (PyData.list ds).shown) L) : rc X H0 M (.builtin "repr") [.ref p] L Q := by
  obtain ⟨a, b, c, e⟩ := f.facts
  refine rc_repr hr gd (fun H z => .lst (z.sq ia) f.dp) (by simpa [PyData.showable] using a) (by simpa [PyData.hasDict] using b) (by simp only [PyData.depth]; omega) ?_ h
  exact Nat.le_trans (list_le e (Nat.le_of_ble_eq_true hn)) (by decide)
theorem rc_reprT (hr : Room k X.A) (gd : X.A.guards = some []) (ia : At L p (.tup vs)) (f : Fls vs ds) (hn : Nat.ble ds.length 100 = true) (h : Q (.str (PyData.tuple ds).shown) L) : rc X H0 M (.builtin "repr") [.ref p] L Q := by
  obtain ⟨a, b, c, e⟩ := f.facts
  refine rc_repr hr gd (fun H z => .tup (z.st ia) f.dp) (by simpa [PyData.showable] using a) (by simpa [PyData.hasDict] using b) (by simp only [PyData.depth]; omega) ?_ h
  exact Nat.le_trans (tuple_le e (Nat.le_of_ble_eq_true hn)) (by decide)
end
theorem log_of {i : Int} (h : -10000000000000000000000000000000000000000000000000000000000000000000000 ≤ i ∧ i ≤ 10000000000000000000000000000000000000000000000000000000000000000000000) : i.natAbs.log2 < 1920 := by
  have e : i.natAbs ≤ 10000000000000000000000000000000000000000000000000000000000000000000000 := by omega
  by_cases z : i.natAbs = 0
  · rw [z]; decide
  · refine (Nat.log2_lt z).mpr (Nat.lt_of_le_of_lt e ?_)
    exact Nat.lt_of_lt_of_le (show _ < 2 ^ 250 by decide +kernel) (Nat.pow_le_pow_right (by decide) (by decide))
section
variable {vs : List V} {ds : List PyData} {v : V} {d : PyData}
theorem Fl.lay (h : Fl v d) : d.canLay0 = true := by
  cases h with
  | str h => simp [PyData.canLay0, h.2]
  | int h => simp [PyData.canLay0]
  | non => simp [PyData.canLay0]
  | bl => simp [PyData.canLay0]
theorem Fls.lay (h : Fls vs ds) : PyData.canLayAll0 ds = true := by
  induction h with
  | nil => simp [PyData.canLayAll0]
  | cons h _ ih => simp [PyData.canLayAll0, h.lay, ih]
theorem Fls.shL (h : Fls vs ds) : SeqAt.shaped (.list ds) = true := by
  have a := h.lay
  have b := h.facts.2.2.1
  exact Bool.and_eq_true_iff.mpr ⟨by simpa [PyData.canLay0] using a, decide_eq_true (by simp only [PyData.depth]; omega)⟩
theorem Fls.shT (h : Fls vs ds) : SeqAt.shaped (.tuple ds) = true := by
  have a := h.lay
  have b := h.facts.2.2.1
  exact Bool.and_eq_true_iff.mpr ⟨by simpa [PyData.canLay0] using a, decide_eq_true (by simp only [PyData.depth]; omega)⟩
end
section
variable {X : Cx} {H0 : Hp} {M : Addr → Prop} {L : LL} {Q : V → LL → Prop} {k : Nat} {p q : Addr} {xs ys : List V} {ds es : List PyData}
theorem ro_eqL (hr : Room k X.A) (ia : At L p (.lst xs)) (ib : At L q (.lst ys)) (f : Fls xs ds) (g : Fls ys es) (h : Q (.bl (PyData.eqv (.list ds) (.list es))) L) : ro X H0 M (compareOp .Eq) (.ref p) (.ref q) L Q :=
  ro_of (op_eqD (by have := hr.un; omega)) fun H z => ⟨_, _, .lst (z.sq ia) f.dp, .lst (z.sq ib) g.dp, f.shL, g.shL, L, z, h⟩
theorem ro_neL (hr : Room k X.A) (ia : At L p (.lst xs)) (ib : At L q (.lst ys)) (f : Fls xs ds) (g : Fls ys es) (h : Q (.bl (!PyData.eqv (.list ds) (.list es))) L) : ro X H0 M (compareOp .NotEq) (.ref p) (.ref q) L Q :=
  ro_of (op_neD (by have := hr.un; omega)) fun H z => ⟨_, _, .lst (z.sq ia) f.dp, .lst (z.sq ib) g.dp, f.shL, g.shL, L, z, h⟩
theorem ro_eqT (hr : Room k X.A) (ia : At L p (.tup xs)) (ib : At L q (.tup ys)) (f : Fls xs ds) (g : Fls ys es) (h : Q (.bl (PyData.eqv (.tuple ds) (.tuple es))) L) : ro X H0 M (compareOp .Eq) (.ref p) (.ref q) L Q :=
  ro_of (op_eqD (by have := hr.un; omega)) fun H z => ⟨_, _, .tup (z.st ia) f.dp, .tup (z.st ib) g.dp, f.shT, g.shT, L, z, h⟩
theorem ro_neT (hr : Room k X.A) (ia : At L p (.tup xs)) (ib : At L q (.tup ys)) (f : Fls xs ds) (g : Fls ys es) (h : Q (.bl (!PyData.eqv (.tuple ds) (.tuple es))) L) : ro X H0 M (compareOp .NotEq) (.ref p) (.ref q) L Q :=
  ro_of (op_neD (by have := hr.un; omega)) fun H z => ⟨_, _, .tup (z.st ia) f.dp, .tup (z.st ib) g.dp, f.shT, g.shT, L, z, h⟩
end
/-- x, y = a, b, local names -/
theorem ks_par {X : Cx} {H0 : Hp} {M : Addr → Prop} {L : LL} {σ : L2.St} {N Nv : List Str} {x y : Str} {a b : Expr} {px py pt pos : Pos} {kt k2 pt2} {nx : L2.St → LL → Prop} {rt : V → LL → Prop} {bk ct : L2.St → LL → Prop} (n : Ns X N Nv) (hc : X.calm = true) (mx : x ∈ N) (my : y ∈ N) (hxy : (x == y) = false)
    (hx : X.env.scope.names.lookup x = some .local) (hy : X.env.scope.names.lookup y = some .local)
    (hw : swappedStores [.Tuple [.Name x px, .Name y py] kt pt] (.Tuple [a, b] k2 pt2) X.env = pure (some [x, y]))
    (hs : swapsWithSole [.Tuple [.Name x px, .Name y py] kt pt] (.Tuple [a, b] k2 pt2) pos.line X.env = pure false)
    (h : ka X H0 M [a, b] σ L fun vs L1 => ∃ v w, vs = [v, w] ∧ Pq N σ x v fun σ1 => Pq N σ1 y w fun σ2 => nx σ2 L1) : ks X H0 M (.Assign [.Tuple [.Name x px, .Name y py] kt pt] (.Tuple [a, b] k2 pt2) pos) nx rt bk ct σ L := by
  obtain ⟨i, hi⟩ := List.getElem?_of_mem mx
  obtain ⟨j, hj⟩ := List.getElem?_of_mem my
  rw [← n.eq] at hi hj
  have hij : i ≠ j := fun e => by
    subst e
    rw [hi] at hj
    cases hj
    rw [beq_self_eq_true] at hxy
    cases hxy
  refine ks_of (ps_par hc (by rw [n.eq]; exact n.nd) hi hj hij hx hy pa_wa hw hs) fun H z => wa_mono (h H z) fun vs H1 ⟨L1, z1, v, w, ev, σ1, p1, σ2, p2, k⟩ => ⟨v, w, ev, L1, z1, ?_⟩
  show nx ((σ.set i (some v)).set j (some w)) L1
  rw [n.ix hi p1, n.ix hj p2]
  exact k
theorem Body.par {X : Cx} {P : Program} {w : World} {K : PySem.W.Frag} {mg : Str → Option Value} {base : Heap} {k : Nat} {sc : Scope} {H0 : Hp} {M : Addr → Prop} {L : LL} {σ : L2.St} {N Nv : List Str} {x y : Str} {a b : Expr} {px py pt pos : Pos} {kt k2 pt2} {nx : L2.St → LL → Prop} {rt : V → LL → Prop} {bk ct : L2.St → LL → Prop} (bd : Body X P w K mg base k N Nv sc) (n : Ns X N Nv) (mx : x ∈ N) (my : y ∈ N) (hxy : (x == y) = false)
    (hx : sc.names.lookup x = some .local) (hy : sc.names.lookup y = some .local)
    (hw : ∀ env : Env, env.scope = sc → swappedStores [.Tuple [.Name x px, .Name y py] kt pt] (.Tuple [a, b] k2 pt2) env = pure (some [x, y]))
    (hs : swapsWithSole [.Tuple [.Name x px, .Name y py] kt pt] (.Tuple [a, b] k2 pt2) pos.line X.env = pure false)
    (h : ka X H0 M [a, b] σ L fun vs L1 => ∃ v w, vs = [v, w] ∧ Pq N σ x v fun σ1 => Pq N σ1 y w fun σ2 => nx σ2 L1) : ks X H0 M (.Assign [.Tuple [.Name x px, .Name y py] kt pt] (.Tuple [a, b] k2 pt2) pos) nx rt bk ct σ L :=
  ks_par n bd.calm mx my hxy (by rw [bd.scope]; exact hx) (by rw [bd.scope]; exact hy) (hw _ bd.scope) hs h
theorem ka_go {X : Cx} {H0 H : Hp} {M : Addr → Prop} {L : LL} {es : List Expr} {σ : L2.St} {Q : List V → LL → Prop} (z : Hs H0 M L H) (h : ka X H0 M es σ L Q) : wa X es σ H (upA H0 M Q) := h H z
end Xi

/-! ## Op -/
/-! Operators between two objects of one family of classes. -/
namespace Xi
open PySem PySem.Spec PyProof.Rows L2 PySem.W
abbrev missMsg (nm name : Str) : Str := (Str.ofString ("type object '" ++ toString nm.toString ++ "' has no attribute '") ++ name ++ Str.ofString "'")
/-- an AttributeError, newly made -/
structure Left (h h' : Heap) (e : Addr) : Prop where
  keeps : ∀ b o, h.get? b = some o → h'.get? b = some o
  there : ∃ ob, h'.get? e = some ob ∧ ob.cls = .type "AttributeError"
theorem raise_left {α : Type} {M : Model} {A : Around} {E : Value → Shared → Prop} {s : Shared} {msg : Str} {Q : α → Shared → Prop} (hh : A.handled = none) (hm : msg.length ≤ sizeLine)
    (h : ∀ h' tk e, Left s.heap h' e → E (.ref e) { s with heap := h', toks := tk }) : wpAny M A (raiseErrorStr "AttributeError" msg : Sem α) Q E s := by
  unfold raiseErrorStr
  refine wpAny_bind (wpAny_mkStr (wpAny_bind ?_) hm)
  unfold newExc newTuple
  refine wpAny_bind (wpAny_newObj_type ?_ (by size_fits))
  refine wpAny_bind (m := firstArgMember _ _) (wpAny_of_eq (a := Value.none) (by simp only [firstArgMember, attrError_no_first]; rfl) ?_)
  rw [ownMembersOf_AttributeError]
  refine wpAny_newObj_type ?_ (by size_fits)
  unfold raiseNew
  refine wpAny_bind (wpAny_handled ?_)
  rw [hh]
  first
    | refine wpAny_throw ?_
    | refine wpAny_bind (wpAny_pure (wpAny_throw ?_))
  exact h _ _ _ ⟨fun b o hb => Heap.get?_push_of_some _ (Heap.get?_push_of_some _ hb), _, Heap.get?_push_size _ rfl, rfl⟩
section
variable {prog : Program} {w : World} {A : Around} {E : Value → Shared → Prop} {s : Shared} {K : PySem.W.Frag} {C : Addr} {mc : Value} {name : Str} {cd : ClassData}
theorem tga_miss {tk : Tok} {Q : Fin → Shared → Prop} (X : K.In s.heap) (ho : Looks (model prog w) s.heap (opaqueClassAbove (.ref C)) none) (ht : Looks (model prog w) s.heap (typeOf (.ref C)) mc) (h1 : findIn K mc name = some none) (h4 : findIn K (.ref C) name = some none)
    (hcd : clsIn K C = some cd) (hle : cd.name.cps.foldl (fun k c => k + (Str.utf8Of c).length) 0 ≤ 100) (hm : (missMsg cd.name name).length ≤ sizeLine) (hh : A.handled = none)
    (h : ∀ h' tk e, Left s.heap h' e → E (.ref e) { s with heap := h', toks := tk }) : wpAny (model prog w) A (Builtin.«type.__getattribute__» ⟨[.ref C, .str name tk], []⟩) Q E s := by
  have L1 := looks_findIn (M := model prog w) X h1
  have L4 := looks_findIn (M := model prog w) X h4
  have LC := looks_clsIn (M := model prog w) X hcd
  obtain ⟨hh', g, d, t, os⟩ := s
  dsimp only at X ho ht L1 L4 LC
  unfold Builtin.«type.__getattribute__»
  refine wpAny_bind (wpAny_pure (wpAny_bind (ho.at (wpAny_bind (ht.at (wpAny_bind (L1.at ?_)))))))
  refine wpAny_bind (wpAny_pure (wpAny_bind (L4.at ?_)))
  dsimp only
  refine wpAny_bind (wpAny_rule ?_)
  unfold typeNameCut
  refine wpAny_bind (wpAny_bind (LC.at ?_))
  rw [if_pos hle]
  refine wpAny_pure ?_
  exact raise_left hh hm h
/-- the class has not the name: an error that is caught again -/
theorem cls_miss {tk : Tok} {Q : Option Value → Shared → Prop} {hook : Option Value} (X : K.In s.heap) (th : nsIn K cStatics "thirdparty.any" = some none) (ty : typeIn K (.ref C) = some (.type "type"))
    (h1 : findIn K (.type "type") name = some none) (h4 : findIn K (.ref C) name = some none) (hga : findIn K (.type "type") "__getattribute__" = some (some (.builtin "type.__getattribute__"))) (hga2 : findIn K (.type "type") "__getattr__" = some none) (hi : subIn K (.type "type") (.type "type") = some true)
    (hcd : clsIn K C = some cd) (hle : cd.name.cps.foldl (fun k c => k + (Str.utf8Of c).length) 0 ≤ 100) (hm : (missMsg cd.name name).length ≤ sizeLine) (hh : A.handled = none)
    (h : ∀ h' tk, (∀ b o, s.heap.get? b = some o → h'.get? b = some o) → Q none { s with heap := h', toks := tk }) : wpAny (model prog w) A (getAttrBy? (.ref C) (.str name tk)) Q E s := by
  have ht := looks_typeIn (M := model prog w) X ty
  unfold getAttrBy?
  refine wpAny_bind (wpAny_attempt ?_)
  unfold getAttrBy
  refine wpAny_holding (wpAny_bind (ht _ _ _ _ (fun _ _ e => e) (wpAny_bind (looks_findIn X hga _ _ _ _ (fun _ _ e => e) ?_))))
  dsimp only
  rw [show (onTheHeap (.type "type") && Value.builtin "type.__getattribute__" == Value.builtin "object.__getattribute__") = false from by rfl, if_neg (by decide)]
  unfold getAttrByItsOwn
  refine wpAny_bind (wpAny_pure (wpAny_bind (wpAny_attempt (wpAny_holding ?_))))
  unfold callGetattribute
  rw [show (false && onTheHeap (Value.builtin "type.__getattribute__")) = false from rfl, if_neg (by decide)]
  unfold boundAndCalled
  rw [KF.slot_tga.bind]
  refine wpAny_bind (wpAny_pure ?_)
  show wpAny _ _ (call (.builtin "type.__getattribute__") [.ref C, .str name tk]) _ _ _
  refine wpAny_call ?_
  refine codeAny_call_builtin KF.slot_tga.plain KF.entry_tga ?_
  refine @check_slot (model prog w) _ _ s "type.__getattribute__" "type" "__getattribute__" (.ref C) [.str name tk] [] _ (by decide +kernel) (by decide +kernel) (ht.andThen (looks_subIn X hi)) (KF.args_tga (.ref C) (.str name tk)) ?_
  refine tga_miss X (looks_opaque X th) ht h1 h4 hcd hle hm hh fun h' tk' e le => ?_
  obtain ⟨kp, ob, hob, hcl⟩ := le
  dsimp only
  unfold getattributeRaised
  refine wpAny_bind (wpAny_isInstance (T := "AttributeError") ⟨ob, hob, hcl⟩ sub_AttributeError ?_)
  rw [if_pos rfl]
  refine wpAny_bind ?_
  unfold hookBehind
  rw [show onTheHeap (Value.type "type") = false from rfl, if_neg (by decide)]
  have X2 : K.In h' := fun b o z => kp b o (X b o z)
  refine looks_findIn X2 hga2 _ _ _ _ (fun _ _ e => e) ?_
  unfold hookOrError attributeErrorLeaves
  refine wpAny_bind (wpAny_throw ?_)
  refine wpAny_bind (wpAny_isInstance (T := "AttributeError") ⟨ob, hob, hcl⟩ sub_AttributeError ?_)
  rw [if_pos rfl]
  exact wpAny_pure (h h' tk' kp)
end
/-- what a class says of an operator's name nm: f is found, nothing reflected -/
structure Fam (K : PySem.W.Frag) (C : Addr) (nm : String) (f : Addr) : Prop where
  at_ : findIn K (.ref C) (PySem.dunder nm) = some (some (.ref f))
  fn : isFn K (.ref f) = true
  first : selfFirst K C = true
  noR : findIn K (.ref C) (dunderR nm) = some none
  ty : typeIn K (.ref C) = some (.type "type")
  nm : ∃ cd, clsIn K C = some cd ∧ cd.name.cps.foldl (fun k c => k + (Str.utf8Of c).length) 0 ≤ 100 ∧ (missMsg cd.name (dunderR nm)).length ≤ sizeLine
/-- .. and of classes at all -/
structure Top0 (K : PySem.W.Frag) (nm : String) : Prop where
  th : nsIn K cStatics "thirdparty.any" = some none
  noR : findIn K (.type "type") (dunderR nm) = some none
  ga : findIn K (.type "type") "__getattribute__" = some (some (.builtin "type.__getattribute__"))
  gb : findIn K (.type "type") "__getattr__" = some none
  sb : subIn K (.type "type") (.type "type") = some true
  fits : (dunderR nm).length ≤ sizeLine
section
variable {prog : Program} {w : World} {A : Around} {E : Value → Shared → Prop} {s : Shared} {K : PySem.W.Frag} {C D f x y : Addr} {nm : String} {ox oy : Obj} {od oe : Option Obj}
theorem refl_no {Q : Bool → Shared → Prop} (X : K.In s.heap) (FC : Fam K C nm f) (FD : Fam K D nm f) (T : Top0 K nm) (hh : A.handled = none)
    (h : ∀ h' tk, (∀ b o, s.heap.get? b = some o → h'.get? b = some o) → Q false { s with heap := h', toks := tk }) : wpAny (model prog w) A (reflectedDiffers (.ref C) (.ref D) nm) Q E s := by
  have LC : Looks (model prog w) s.heap (numberSlotInPython (.ref C) nm) true := ksp_inPy X FC.at_ FC.noR (.inl rfl)
  have LD : Looks (model prog w) s.heap (numberSlotInPython (.ref D) nm) true := ksp_inPy X FD.at_ FD.noR (.inl rfl)
  obtain ⟨cd, c1, c2, c3⟩ := FD.nm
  unfold reflectedDiffers
  refine wpAny_bind (LC _ _ _ _ (fun _ _ e => e) ?_)
  simp only [Bool.not_true, Bool.false_eq_true, if_false]
  refine wpAny_bind (LD _ _ _ _ (fun _ _ e => e) ?_)
  simp only [Bool.not_true, Bool.false_eq_true, if_false]
  refine wpAny_bind (wpAny_mkStr ?_ T.fits)
  refine wpAny_bind (cls_miss (hook := none) X T.th FD.ty T.noR FD.noR T.ga T.gb T.sb c1 c2 c3 hh fun h' tk kp => ?_)
  exact wpAny_pure (h h' tk kp)
theorem inst_keeps {h h' : Heap} (I : PySem.W.InstAt h x ox C od) (kp : ∀ b o, h.get? b = some o → h'.get? b = some o) : PySem.W.InstAt h' x ox C od := ⟨kp _ _ I.at_, I.cls, I.no, by
  have := I.dict
  split at this <;> first | exact kp _ _ this | trivial | exact this.elim⟩
theorem bin_fam {op : Operator} {Q : Value → Shared → Prop} (X : K.In s.heap) (I : InstAt s.heap x ox C od) (J : InstAt s.heap y oy D oe) (FC : Fam K C op.info.2 f) (FD : Fam K D op.info.2 f) (T : Top0 K op.info.2) (hs : ∃ b, subIn K (.ref D) (.ref C) = some b) (hh : A.handled = none)
    (h : ∀ (h' : Heap) (tk : Nat), (∀ b o, s.heap.get? b = some o → h'.get? b = some o) → wpAny (model prog w) A (call (.ref f) [.ref x, .ref y]) (PySem.W.CmpBack Q) E { s with heap := h', toks := tk }) : wpAny (model prog w) A (binaryOp op (.ref x) (.ref y)) Q E s := by
  obtain ⟨cd, rest, hcd, hm⟩ := ksp_first FC.first
  obtain ⟨cd2, rest2, hcd2, hm2⟩ := ksp_first FD.first
  obtain ⟨b, hb⟩ := hs
  rcases hi : op.info with ⟨sym, nm'⟩
  rw [hi] at FC FD T
  dsimp only at FC FD T
  have step : ∀ (h' : Heap) (tk : Nat), (∀ b o, s.heap.get? b = some o → h'.get? b = some o) → wpAny (model prog w) A (tryMethod (.ref x) (PySem.dunder nm') (.ref y)) (fun r s' => ∃ v, r = some v ∧ Q v s') E { s with heap := h', toks := tk } := fun h' tk kp =>
    ksp_try (s := { s with heap := h', toks := tk }) (fun b o z => kp b o (X b o z)) (inst_keeps I kp) FC.at_ FC.fn (h h' tk kp)
  obtain ⟨h0, g, d, tt, os⟩ := s
  dsimp only at X I J step
  have L1 : Looks (model prog w) h0 (typeOf (.ref x)) (.ref C) := I.type
  have L2 : Looks (model prog w) h0 (typeOf (.ref y)) (.ref D) := J.type
  have L3 : Looks (model prog w) h0 (fillsNumberSlot (.ref C) nm') true := fills_K X hcd hm FC.at_
  have L4 : Looks (model prog w) h0 (fillsNumberSlot (.ref D) nm') true := fills_K X hcd2 hm2 FD.at_
  have L5 : Looks (model prog w) h0 (isSubtype (.ref D) (.ref C)) b := looks_subIn X hb
  have P1 : ∀ h' : Heap, (∀ b o, h0.get? b = some o → h'.get? b = some o) → Looks (model prog w) h' (numberSlotInPython (.ref C) nm') true := fun h' kp => ksp_inPy (fun b o z => kp b o (X b o z)) FC.at_ FC.noR (.inl rfl)
  have P2 : ∀ h' : Heap, (∀ b o, h0.get? b = some o → h'.get? b = some o) → Looks (model prog w) h' (numberSlotInPython (.ref D) nm') true := fun h' kp => ksp_inPy (fun b o z => kp b o (X b o z)) FD.at_ FD.noR (.inl rfl)
  simp only [binaryOp, hi]
  refine wpAny_holding (wpAny_bind ?_)
  unfold binaryOp1
  refine wpAny_bind (L1.at (wpAny_bind (L2.at (wpAny_bind (L3.at ?_)))))
  by_cases e : C = D
  · subst e
    simp only [beq_self_eq_true, if_true]
    refine wpAny_bind (wpAny_pure ?_)
    simp only [Bool.and_false, Bool.false_eq_true, if_false, Bool.false_and]
    refine wpAny_bind (wpAny_pure ?_)
    simp only [Bool.false_eq_true, if_false]
    refine wpAny_bind (wpAny_mono (step h0 tt fun _ _ z => z) (fun r s' hr' => ?_) fun _ _ e => e)
    obtain ⟨v, rfl, hq⟩ := hr'
    exact wpAny_pure (wpAny_pure hq)
  · have hne : (Value.ref C == Value.ref D) = false := Bool.eq_false_iff.mpr fun q => e (by cases beq_iff_eq.mp q; rfl)
    simp only [hne, Bool.false_eq_true, if_false]
    refine wpAny_bind (L4.at ?_)
    simp only [Bool.and_self, if_true]
    refine wpAny_bind (L5.at ?_)
    cases b with
    | true =>
      rw [if_pos rfl]
      refine wpAny_bind (refl_no X FC FD T hh fun h' tk kp => ?_)
      simp only [Bool.false_eq_true, if_false, Bool.not_false, Bool.and_self, if_true]
      refine wpAny_bind ((P1 h' kp).at ?_)
      simp only [if_true]
      refine wpAny_bind ((P2 h' kp).at ?_)
      simp only [Bool.not_true, Bool.false_eq_true, if_false]
      refine wpAny_bind (wpAny_mono (step h' tk kp) (fun r s' hr' => ?_) fun _ _ e => e)
      obtain ⟨v, rfl, hq⟩ := hr'
      exact wpAny_pure (wpAny_pure hq)
    | false =>
      simp only [Bool.false_eq_true, if_false, Bool.not_false, Bool.and_self, if_true]
      refine wpAny_bind ((P1 h0 fun _ _ z => z).at ?_)
      simp only [if_true]
      refine wpAny_bind ((P2 h0 fun _ _ z => z).at ?_)
      simp only [Bool.not_true, Bool.false_eq_true, if_false]
      refine wpAny_bind (wpAny_mono (step h0 tt fun _ _ z => z) (fun r s' hr' => ?_) fun _ _ e => e)
      obtain ⟨v, rfl, hq⟩ := hr'
      exact wpAny_pure (wpAny_pure hq)
end
/-- .. the right side a plain value of the type T -/
theorem bin_type {prog : Program} {w : World} {A : Around} {E : Value → Shared → Prop} {s : Shared} {K : PySem.W.Frag} {C f x : Addr} {ox : Obj} {od : Option Obj} {T : String} {b : Value} {op : Operator} {fo ro : Option Value} {Q : Value → Shared → Prop} (X : K.In s.heap) (I : PySem.W.InstAt s.heap x ox C od) (hb : typeOf b = pure (.type T)) (FC : Fam K C op.info.2 f)
    (h1 : findIn K (.type T) (PySem.dunder op.info.2) = some fo) (h2 : findIn K (.type T) (dunderR op.info.2) = some ro) (hs : subIn K (.type T) (.ref C) = some false) (h : wpAny (model prog w) A (call (.ref f) [.ref x, b]) (PySem.W.CmpBack Q) E s) : wpAny (model prog w) A (binaryOp op (.ref x) b) Q E s := by
  obtain ⟨cd, rest, hcd, hm⟩ := ksp_first FC.first
  rcases hi : op.info with ⟨sym, nm'⟩
  rw [hi] at FC h1 h2
  dsimp only at FC h1 h2
  have step := ksp_try X I FC.at_ FC.fn h
  obtain ⟨h0, g, d, tt, os⟩ := s
  dsimp only at X I step
  have L1 : Looks (model prog w) h0 (typeOf (.ref x)) (.ref C) := I.type
  have L2 : Looks (model prog w) h0 (typeOf b) (.type T) := Looks.of_pure hb
  have L3 : Looks (model prog w) h0 (fillsNumberSlot (.ref C) nm') true := fills_K X hcd hm FC.at_
  have L4 : Looks (model prog w) h0 (fillsNumberSlot (.type T) nm') ((fo.isSome && !isSeqSlot fo) || (ro.isSome && !isSeqSlot ro)) := ksp_fillsT X h1 h2
  have L5 : Looks (model prog w) h0 (isSubtype (.type T) (.ref C)) false := looks_subIn X hs
  have L6 : Looks (model prog w) h0 (numberSlotInPython (.ref C) nm') true := ksp_inPy X FC.at_ FC.noR (.inl rfl)
  have L7 : Looks (model prog w) h0 (numberSlotInPython (.type T) nm') false := Looks.of_pure rfl
  have L8 : Looks (model prog w) h0 (typeLookup (.type T) (dunderR nm')) ro := looks_findIn X h2
  generalize ((fo.isSome && !isSeqSlot fo) || (ro.isSome && !isSeqSlot ro)) = rr at L4
  have hne : (Value.ref C == Value.type T) = false := Bool.eq_false_iff.mpr fun q => by cases beq_iff_eq.mp q
  simp only [binaryOp, hi]
  refine wpAny_holding (wpAny_bind ?_)
  unfold binaryOp1
  refine wpAny_bind (L1.at (wpAny_bind (L2.at (wpAny_bind (L3.at ?_)))))
  simp only [hne, Bool.false_eq_true, if_false]
  refine wpAny_bind (L4.at ?_)
  cases rr with
  | true =>
    simp only [Bool.and_self, if_true]
    refine wpAny_bind (L5.at ?_)
    simp only [Bool.false_eq_true, if_false, Bool.not_false, Bool.and_self, if_true]
    refine wpAny_bind (L6.at ?_)
    simp only [if_true]
    refine wpAny_bind (L7.at ?_)
    simp only [Bool.not_false, if_true]
    refine wpAny_bind (L8.at ?_)
    refine wpAny_bind (wpAny_mono step (fun r s' hr' => ?_) fun _ _ e => e)
    obtain ⟨v, rfl, hq⟩ := hr'
    exact wpAny_pure (wpAny_pure hq)
  | false =>
    simp only [Bool.and_false, Bool.false_and, Bool.false_eq_true, if_false, if_true]
    refine wpAny_bind (wpAny_pure ?_)
    simp only [Bool.false_eq_true, if_false, if_true]
    refine wpAny_bind (wpAny_mono step (fun r s' hr' => ?_) fun _ _ e => e)
    obtain ⟨v, rfl, hq⟩ := hr'
    exact wpAny_pure (wpAny_pure hq)
/-- an operator's method of a family of classes -/
structure OpT (P : Program) (w : World) (K : PySem.W.Frag) (mg : Str → Option Value) (base : Heap) (CX : CXT) (k : Nat) (Cs : Addr → Prop) (nm : String) (sp : Sp) : Prop where
  ex : ∃ f fd ps, Fk P w K mg base CX k f fd ps sp ∧ (∀ C, Cs C → Fam K C nm f) ∧ (∀ C D, Cs C → Cs D → ∃ b, subIn K (.ref D) (.ref C) = some b) ∧ Top0 K nm ∧ Binds K fd ps []
theorem cmp_back {Q : VK} {v : V} {u : Value} {s : Shared} {R : Value → Shared → Prop} (r : RelV v u) (h : R u s) : PySem.W.CmpBack R u s := by
  cases u <;> first | exact h | (cases v <;> first | exact (nomatch r) | (obtain ⟨_, r⟩ := r; cases r))
section
variable {X : Cx} {P : Program} {w : World} {K : PySem.W.Frag} {mg : Str → Option Value} {base : Heap} {k j : Nat} {N Nv : List Str} {sc : Scope} {sp : Sp} {a b C D dx dy : Addr} {fs gs : List (Str × V)} {Cs : Addr → Prop} {op : Operator} {nm : String}
variable {H0 : Hp} {M : Addr → Prop} {L : LL} {Q : V → LL → Prop}
theorem Body.bin (bd : Body X P w K mg base k N Nv sc) (O : OpT P w K mg base CX0 j Cs nm sp) (hj : Nat.ble j k = true) (e : op.info.2 = nm) (ix : At L a (.ins C dx fs)) (cC : Cs C) (iy : At L b (.ins D dy gs)) (cD : Cs D)
    (h : rs H0 M sp EE [.ref a, .ref b] L Q) : ro X H0 M (binaryOp op) (.ref a) (.ref b) L Q := fun H z pins s σ v u I rx ry => by
  subst e
  obtain ⟨f, fd, ps, F, fam, sub, top, hb⟩ := O.ex
  rw [← bd.prog, ← bd.w, ← bd.K, ← bd.mg, ← bd.base] at F
  rw [← bd.K] at fam sub top hb
  obtain rfl : v = Value.ref a := rx
  obtain rfl : u = Value.ref b := ry
  obtain ⟨ox, od, J, _⟩ := StX.insC_at I (.inr ⟨dx, fs, z.get ix⟩)
  obtain ⟨oy, oe, J2, _⟩ := StX.insC_at I (.inr ⟨dy, gs, z.get iy⟩)
  refine bin_fam I.kIn J J2 (fam C cC) (fam D cD) top (sub C D cC cD) bd.room.hd fun h' tk kp => ?_
  have I2 := I.kept (t' := tk) kp
  refine wpAny_mono (fk_run (us := [.ref a, .ref b]) (vs := [.ref a, .ref b]) F (bd.rm (Nat.le_of_ble_eq_true hj)) bd.gd hb .nil px0 I2 (.cons rfl (.cons rfl .nil)) (h H z)) (fun r s2 ⟨v, H2, I3, rv, q⟩ => ?_) fun _ _ e => e
  exact cmp_back (Q := fun _ _ => True) rv ⟨v, H2, I3, rv, q⟩
/-- .. with an integer behind it -/
theorem Body.binI {i : Int} (bd : Body X P w K mg base k N Nv sc) (O : OpT P w K mg base CX0 j Cs nm sp) (hj : Nat.ble j k = true) (e : op.info.2 = nm) (ty : ∃ fo ro, findIn K (.type "int") (PySem.dunder nm) = some fo ∧ findIn K (.type "int") (dunderR nm) = some ro) (sb : subIn K (.type "int") (.ref C) = some false) (ix : At L a (.ins C dx fs)) (cC : Cs C)
    (h : rs H0 M sp EE [.ref a, .int i] L Q) : ro X H0 M (binaryOp op) (.ref a) (.int i) L Q := fun H z pins s σ v u I rx ry => by
  subst e
  obtain ⟨f, fd, ps, F, fam, sub, top, hb⟩ := O.ex
  obtain ⟨fo, ro', t1, t2⟩ := ty
  rw [← bd.prog, ← bd.w, ← bd.K, ← bd.mg, ← bd.base] at F
  rw [← bd.K] at fam sub top hb t1 t2 sb
  obtain rfl : v = Value.ref a := rx
  obtain ⟨ti, rfl⟩ := ry
  obtain ⟨ox, od, J, _⟩ := StX.insC_at I (.inr ⟨dx, fs, z.get ix⟩)
  refine bin_type (T := "int") I.kIn J rfl (fam C cC) t1 t2 sb ?_
  refine wpAny_mono (fk_run (us := [.ref a, .int i ti]) (vs := [.ref a, .int i]) F (bd.rm (Nat.le_of_ble_eq_true hj)) bd.gd hb .nil px0 I (.cons rfl (.cons ⟨ti, rfl⟩ .nil)) (h H z)) (fun r s2 ⟨v, H2, I3, rv, q⟩ => ?_) fun _ _ e => e
  exact cmp_back (Q := fun _ _ => True) rv ⟨v, H2, I3, rv, q⟩
end
end Xi

/-! ## Lc -/
/-! List comprehensions. -/
namespace Xi
open PySem PySem.Spec PyProof.Rows L2
/-- a block of a comprehension -/
def IsBlk (X : Cx) (scope : Scope) (Y : Cx) : Prop := ∃ (s : Shared) (H : Hp) (C : Addr) (cl : List (Str × Addr)) (fp : List Addr), Y = X.blk s H scope (compEnvC scope cl C X.env) fp
def wg' (X : Cx) (scope : Scope) (tg : Expr) : TG := fun v σ H Q => ∀ Y, IsBlk X scope Y → wg Y tg v σ H Q
def we' (X : Cx) (scope : Scope) (e : Expr) : TE := fun σ H Q => ∀ Y, IsBlk X scope Y → we Y e σ H Q
def wt' (X : Cx) (scope : Scope) (ifs : List Expr) : TT := match ifs with
  | [] => tYes
  | [c] => fun σ H Q => ∀ Y, IsBlk X scope Y → wt Y c σ H Q
  | _ => fun _ _ _ => False
/-- the tests of a comprehension: none or one -/
def kf (X : Cx) (H0 : Hp) (M : Addr → Prop) (ifs : List Expr) (σ : L2.St) (L : LL) (Q : Bool → LL → Prop) : Prop := match ifs with
  | [] => Q true L
  | [c] => kt X H0 M c σ L Q
  | _ => False
theorem kf_mono {X : Cx} {H0 : Hp} {M : Addr → Prop} {σ : L2.St} {L : LL} {Q Q' : Bool → LL → Prop} : ∀ {ifs : List Expr}, kf X H0 M ifs σ L Q → (∀ b L1, Q b L1 → Q' b L1) → kf X H0 M ifs σ L Q'
  | [], h, k => k true L h
  | [_], h, k => fun H z => wt_mono (h H z) fun b H1 ⟨L1, z1, q⟩ => ⟨L1, z1, k b L1 q⟩
  | _ :: _ :: _, h, _ => h.elim
section
variable {X : Cx} {elt tg iter : Expr} {ifs : List Expr} {scope : Scope} {own : List (Str × Nat)} {pos : Pos} {H0 : Hp} {M : Addr → Prop} {L : LL} {σ : L2.St} {Q : V → LL → Prop}
theorem pts_wt' {s : Shared} {H : Hp} {C : Addr} {cl : List (Str × Addr)} {fp : List Addr} : ∀ ifs, PTs (X.blk s H scope (compEnvC scope cl C X.env) fp) ifs (wt' X scope ifs)
  | [] => pts_nil
  | [_] => pts_one ⟨fun pins s' σ H' Q I h => h _ ⟨s, H, C, cl, fp, rfl⟩ pins s' I⟩
  | _ :: _ :: _ => ⟨fun _ _ _ _ _ _ h => h.elim⟩
theorem wt'_up {H : Hp} {Q : Bool → LL → Prop} {R : Bool → Hp → Prop} (z : Hs H0 M L H) : ∀ {ifs : List Expr}, (∀ Y, IsBlk X scope Y → kf Y H0 M ifs σ L Q) → (∃ Y, IsBlk X scope Y) → (∀ b L1 H1, Hs H0 M L1 H1 → Q b L1 → R b H1) → wt' X scope ifs σ H R
  | [], h, ⟨Y, hY⟩, k => k true L H z (h Y hY)
  | [_], h, _, k => fun Y hY => wt_mono (h Y hY H z) fun b H1 ⟨L1, z1, q⟩ => k b L1 H1 z1 q
  | _ :: _ :: _, h, ⟨Y, hY⟩, _ => (h Y hY).elim
/-- a comprehension's turns, the list it makes: the core of its two roads -/
def kLc (X : Cx) (H0 : Hp) (M : Addr → Prop) (elt tg iter : Expr) (ifs : List Expr) (scope : Scope) (own : List (Str × Nat)) (σ : L2.St) (L : LL) (Q : V → LL → Prop) : Prop := ∀ H, Hs H0 M L H → tLc (wi X tg iter) (wg' X scope tg) (wt' X scope ifs) (we' X scope elt) (own.map (·.2)) σ H (up H0 M Q)
theorem kl_lc (h : ki X H0 M tg iter σ L fun J L1 => ∀ D, H0 D = none → ∃ (n : Nat) (G : LL → Prop) (Y : Nat → LL → V → LL → Prop) (I : Nat → LL → Prop), Walks H0 M n G Y J ∧ I 0 ((D, .lst []) :: L1) ∧ (∀ i L, i ≤ n → I i L → G L) ∧
      (∀ i x L L', i < n → I i L → Y i L x L' → ∀ B, IsBlk X scope B → kg B H0 M tg x (wipe σ (own.map (·.2))) L' fun σ2 L2 => wipe σ2 (own.map (·.2)) = wipe σ (own.map (·.2)) ∧ ∀ B, IsBlk X scope B → kf B H0 M ifs σ2 L2 fun b L3 =>
        if b = true then ∀ B, IsBlk X scope B → ke B H0 M elt σ2 L3 fun y L4 => ∃ acc g, Spot L4 D (.lst acc) g ∧ acc.length < sizeLine ∧ ∃ L6, Sub L6 (g (.lst (acc ++ [y]))) ∧ I (i + 1) L6 else ∃ L6, Sub L6 L3 ∧ I (i + 1) L6) ∧ ∀ L, I n L → Q (.ref D) L) : kLc X H0 M elt tg iter ifs scope own σ L Q := fun H z => by
  refine wi_mono (h H z) fun J H1 ⟨L1, z1, k⟩ D nD => ?_
  obtain ⟨n, G, Y, I, w, i0, hG, st, en⟩ := k D (z1.fresh nD)
  refine ⟨fun i m H => m = n - i ∧ i ≤ n ∧ ∃ L, Hs H0 M L H ∧ I i L, ⟨n, rfl, Nat.zero_le n, _, z1.new nD, i0⟩, ?_⟩
  rintro i m H2 ⟨em, hi, L2, z2, iv⟩
  by_cases lt : i < n
  · refine .inr ⟨w.goes i L2 H2 lt (hG i L2 hi iv) z2, fun H' => ∃ L, Hs H0 M L H' ∧ I (i + 1) L, fun H' ⟨L', z', iv'⟩ => ⟨n - (i + 1), by omega, rfl, lt, L', z', iv'⟩, fun x H3 y => ?_⟩
    obtain ⟨L3, z3, y3⟩ := w.yields i L2 H2 x H3 lt (hG i L2 hi iv) z2 y
    intro B hB
    refine wg_mono (fun pins s u I r => st i x L2 L3 lt iv y3 B hB H3 z3 pins s u I r) fun σ2 H4 ⟨L4, z4, e4, q4⟩ => ⟨e4, ?_⟩
    refine wt'_up z4 q4 ⟨B, hB⟩ fun b L5 H5 z5 q5 => ?_
    cases b with
    | true =>
      rw [if_pos rfl] at q5 ⊢
      intro B' hB'
      refine we_mono (q5 B' hB' H5 z5) fun y H6 ⟨L6, z6, acc, g, sp, hl, L7, sb, iv7⟩ => ?_
      exact ⟨acc, z6.at_ _ sp.mem, hl, L7, (z6.put sp (.inl (z1.fresh nD))).sub sb, iv7⟩
    | false =>
      rw [if_neg (by decide)] at q5 ⊢
      obtain ⟨L6, sb, iv6⟩ := q5
      exact ⟨L6, z5.sub sb, iv6⟩
  · have e : i = n := by omega
    subst e
    exact .inl ⟨w.stops L2 H2 (hG _ L2 hi iv) z2, L2, z2, en L2 iv⟩
/-- as a value -/
theorem ke_kl (hc : X.calm = true) (hN : X.N.Nodup) (ok : BlkOk X.N X.env.scope scope own) (hs : ∀ x, foldedSetIterable iter X.env x = pure x) (h : kLc X H0 M elt tg iter ifs scope own σ L Q) : ke X H0 M (.ListComp elt [⟨tg, iter, ifs, 0⟩] scope pos) σ L Q := fun H z =>
  we_of (pe_lc (g := wg' X scope tg) (te := we' X scope elt) (tt := wt' X scope ifs) hc hN pi_wi ok (fun s H C cl fp => ⟨fun pins s' σ H' v u Q I r h => h _ ⟨s, H, C, cl, fp, rfl⟩ pins s' u I r⟩) (fun s H C cl fp => pts_wt' ifs)
    (fun s H C cl fp => ⟨fun pins s' σ H' Q I h => h _ ⟨s, H, C, cl, fp, rfl⟩ pins s' I⟩) hs) (h H z)
/-- as a statement: name = [..], the name a local -/
theorem ks_kl {i : Nat} {y : Str} {py spos : Pos} {nx : L2.St → LL → Prop} {rt : V → LL → Prop} {bk ct : L2.St → LL → Prop} (hc : X.calm = true) (hN : X.N.Nodup) (hy : X.N[i]? = some y) (hyl : X.env.scope.names.lookup y = some .local) (hsw : swapsWith (.ListComp elt [⟨tg, iter, ifs, 0⟩] scope pos) (some (.Name y py)) spos.line X.env = pure true) (ok : BlkOk X.N X.env.scope scope own) (hs : ∀ x, foldedSetIterable iter X.env x = pure x)
    (h : kLc X H0 M elt tg iter ifs scope own σ L fun v L1 => nx (σ.set i (some v)) L1) : ks X H0 M (.Assign [.Name y py] (.ListComp elt [⟨tg, iter, ifs, 0⟩] scope pos) spos) nx rt bk ct σ L :=
  ks_of (ps_setLc (g := wg' X scope tg) (te := we' X scope elt) (tt := wt' X scope ifs) hc hN hy hyl hsw pi_wi ok (fun s H C cl fp => ⟨fun pins s' σ H' v u Q I r h => h _ ⟨s, H, C, cl, fp, rfl⟩ pins s' u I r⟩) (fun s H C cl fp => pts_wt' ifs)
    (fun s H C cl fp => ⟨fun pins s' σ H' Q I h => h _ ⟨s, H, C, cl, fp, rfl⟩ pins s' I⟩) hs) fun H z => h H z
end
/-- the body goes on in the block: Nb the names it reads, No those it stores -/
theorem Body.blk {X Y : Cx} {P : Program} {w : World} {K : PySem.W.Frag} {mg : Str → Option Value} {base : Heap} {k : Nat} {N Nv Nb : List Str} {sc scope : Scope} (bd : Body X P w K mg base k N Nv sc) (hB : IsBlk X scope Y) (vis : ∀ x ∈ Nb, (relS scope sc).names.lookup x = some .local ∨ (relS scope sc).names.lookup x = some .cell ∨ (relS scope sc).names.lookup x = some .free) (pl : ∀ x ∈ Nb, (x == ("__debug__" : Str)) = false ∧ (x == ("__classdict__" : Str)) = false) : Body Y P w K mg base k N Nb (relS scope sc) := by
  obtain ⟨s, H, C, cl, fp, rfl⟩ := hB
  have e : (compEnvC scope cl C X.env).scope = relS scope sc := by rw [← bd.scope]; rfl
  refine ⟨bd.prog, bd.w, bd.K, bd.mg, bd.base, bd.room, bd.gd, ⟨bd.nm.eq, fun x hx => ?_, pl⟩, e, bd.calm, PassesOwn.never⟩
  show Vis (compEnvC scope cl C X.env).scope x
  rw [e]
  exact vis x hx
theorem Ns.blk {X Y : Cx} {P : Program} {w : World} {K : PySem.W.Frag} {mg : Str → Option Value} {base : Heap} {k : Nat} {N Nv No Nw : List Str} {sc scope : Scope} (bd : Body X P w K mg base k N Nv sc) (ns : Ns X N Nw) (hB : IsBlk X scope Y) (lc : ∀ x ∈ No, (relS scope sc).names.lookup x = some .local) : Ns Y N No := by
  obtain ⟨s, H, C, cl, fp, rfl⟩ := hB
  have e : (compEnvC scope cl C X.env).scope = relS scope sc := by rw [← bd.scope]; rfl
  refine ⟨ns.eq, ns.nd, fun x hx => ⟨.inl ?_, .inr ?_⟩⟩
  · show (compEnvC scope cl C X.env).scope.names.lookup x = _
    rw [e]; exact lc x hx
  · show (compEnvC scope cl C X.env).scope.names.lookup x = _
    rw [e]; exact lc x hx
theorem Body.kl {X : Cx} {elt tg iter : Expr} {ifs : List Expr} {scope : Scope} {H0 : Hp} {M : Addr → Prop} {L : LL} {σ : L2.St} {Q : V → LL → Prop} {P : Program} {w : World} {K : PySem.W.Frag} {mg : Str → Option Value} {base : Heap} {k : Nat} {N Nv Nw : List Str} {sc : Scope} (bd : Body X P w K mg base k N Nv sc) (ns : Ns X N Nw) (own : List (Str × Nat)) (Nb No : List Str) (vis : ∀ x ∈ Nb, (relS scope sc).names.lookup x = some .local ∨ (relS scope sc).names.lookup x = some .cell ∨ (relS scope sc).names.lookup x = some .free) (pl : ∀ x ∈ Nb, (x == ("__debug__" : Str)) = false ∧ (x == ("__classdict__" : Str)) = false) (lc : ∀ x ∈ No, (relS scope sc).names.lookup x = some .local) 
    (h : ki X H0 M tg iter σ L fun J L1 => ∀ D, H0 D = none → ∃ (n : Nat) (G : LL → Prop) (Y : Nat → LL → V → LL → Prop) (I : Nat → LL → Prop), Walks H0 M n G Y J ∧ I 0 ((D, .lst []) :: L1) ∧ (∀ i L, i ≤ n → I i L → G L) ∧
      (∀ i x L L', i < n → I i L → Y i L x L' → ∀ B, Body B P w K mg base k N Nb (relS scope sc) → Ns B N No → kg B H0 M tg x (wipe σ (own.map (·.2))) L' fun σ2 L2 => wipe σ2 (own.map (·.2)) = wipe σ (own.map (·.2)) ∧ ∀ B, Body B P w K mg base k N Nb (relS scope sc) → kf B H0 M ifs σ2 L2 fun b L3 =>
        if b = true then ∀ B, Body B P w K mg base k N Nb (relS scope sc) → ke B H0 M elt σ2 L3 fun y L4 => ∃ acc g, Spot L4 D (.lst acc) g ∧ acc.length < sizeLine ∧ ∃ L6, Sub L6 (g (.lst (acc ++ [y]))) ∧ I (i + 1) L6 else ∃ L6, Sub L6 L3 ∧ I (i + 1) L6) ∧ ∀ L, I n L → Q (.ref D) L) :
    kLc X H0 M elt tg iter ifs scope own σ L Q := by
  refine kl_lc fun H z => ?_
  refine wi_mono (h H z) fun J H1 ⟨L1, z1, k⟩ => ⟨L1, z1, fun D nD => ?_⟩
  obtain ⟨n, G, Y, I, w', i0, hG, st, en⟩ := k D nD
  refine ⟨n, G, Y, I, w', i0, hG, fun i x L L' hi iv y B hB H z pins s u I r => ?_, en⟩
  have b1 := bd.blk hB vis pl
  refine wg_mono (fun pins s u I r => st i x L L' hi iv y B b1 (Ns.blk bd ns hB lc) H z pins s u I r) (fun σ2 H2 ⟨L2, z2, e2, q2⟩ => ?_) pins s u I r
  exact ⟨L2, z2, e2, fun B hB => kf_mono (q2 B (bd.blk hB vis pl)) fun b L3 q3 => by
    cases b with
    | true => rw [if_pos rfl] at q3 ⊢; exact fun B hB => q3 B (bd.blk hB vis pl)
    | false => exact q3⟩
theorem Body.lc {X : Cx} {elt tg iter : Expr} {ifs : List Expr} {scope : Scope} {pos : Pos} {H0 : Hp} {M : Addr → Prop} {L : LL} {σ : L2.St} {Q : V → LL → Prop} {P : Program} {w : World} {K : PySem.W.Frag} {mg : Str → Option Value} {base : Heap} {k : Nat} {N Nv Nw : List Str} {sc : Scope} (bd : Body X P w K mg base k N Nv sc) (ns : Ns X N Nw) (own : List (Str × Nat)) (Nb No : List Str) (ok : BlkOk N sc scope own) (vis : ∀ x ∈ Nb, (relS scope sc).names.lookup x = some .local ∨ (relS scope sc).names.lookup x = some .cell ∨ (relS scope sc).names.lookup x = some .free) (pl : ∀ x ∈ Nb, (x == ("__debug__" : Str)) = false ∧ (x == ("__classdict__" : Str)) = false) (lc : ∀ x ∈ No, (relS scope sc).names.lookup x = some .local) (hs : ∀ x, foldedSetIterable iter X.env x = pure x)
    (h : ki X H0 M tg iter σ L fun J L1 => ∀ D, H0 D = none → ∃ (n : Nat) (G : LL → Prop) (Y : Nat → LL → V → LL → Prop) (I : Nat → LL → Prop), Walks H0 M n G Y J ∧ I 0 ((D, .lst []) :: L1) ∧ (∀ i L, i ≤ n → I i L → G L) ∧
      (∀ i x L L', i < n → I i L → Y i L x L' → ∀ B, Body B P w K mg base k N Nb (relS scope sc) → Ns B N No → kg B H0 M tg x (wipe σ (own.map (·.2))) L' fun σ2 L2 => wipe σ2 (own.map (·.2)) = wipe σ (own.map (·.2)) ∧ ∀ B, Body B P w K mg base k N Nb (relS scope sc) → kf B H0 M ifs σ2 L2 fun b L3 =>
        if b = true then ∀ B, Body B P w K mg base k N Nb (relS scope sc) → ke B H0 M elt σ2 L3 fun y L4 => ∃ acc g, Spot L4 D (.lst acc) g ∧ acc.length < sizeLine ∧ ∃ L6, Sub L6 (g (.lst (acc ++ [y]))) ∧ I (i + 1) L6 else ∃ L6, Sub L6 L3 ∧ I (i + 1) L6) ∧ ∀ L, I n L → Q (.ref D) L) :
    ke X H0 M (.ListComp elt [⟨tg, iter, ifs, 0⟩] scope pos) σ L Q :=
  ke_kl bd.calm (by rw [ns.eq]; exact ns.nd) (by rw [ns.eq, bd.scope]; exact ok) hs (Body.kl bd ns own Nb No vis pl lc h)
/-- name = [..] -/
theorem Body.setKl {X : Cx} {elt tg iter : Expr} {ifs : List Expr} {scope : Scope} {pos py spos : Pos} {H0 : Hp} {M : Addr → Prop} {L : LL} {σ : L2.St} {P : Program} {w : World} {K : PySem.W.Frag} {mg : Str → Option Value} {base : Heap} {k : Nat} {N Nv Nw : List Str} {sc : Scope} {y : Str} {own : List (Str × Nat)} {nx : L2.St → LL → Prop} {rt : V → LL → Prop} {bk ct : L2.St → LL → Prop} (bd : Body X P w K mg base k N Nv sc) (ns : Ns X N Nw) (my : y ∈ N) (hy : sc.names.lookup y = some .local) (hk : sc.kind = .function) (hl : (py.line == pos.line) = true) (ha : (scope.names.any fun (n, k) => n == y && (k == .local || k == .cell)) = false) (ok : BlkOk N sc scope own) (hs : ∀ x, foldedSetIterable iter X.env x = pure x)
    (h : kLc X H0 M elt tg iter ifs scope own σ L fun v L1 => Pq N σ y v fun σ' => nx σ' L1) : ks X H0 M (.Assign [.Name y py] (.ListComp elt [⟨tg, iter, ifs, 0⟩] scope pos) spos) nx rt bk ct σ L := by
  obtain ⟨i, hi⟩ := List.getElem?_of_mem my
  rw [← ns.eq] at hi
  have hy' : X.env.scope.names.lookup y = some .local := by rw [bd.scope]; exact hy
  refine ks_kl bd.calm (by rw [ns.eq]; exact ns.nd) hi hy' (sw_true (by rw [bd.scope]; exact hk) hy' hl ha) (by rw [ns.eq, bd.scope]; exact ok) hs fun H z => ?_
  refine wi_mono (h H z) fun J H1 q D nD => ?_
  obtain ⟨W, w0, turn⟩ := q D nD
  refine ⟨W, w0, fun i m H2 wv => (turn i m H2 wv).imp (fun ⟨st, L1, z1, σ', p, q⟩ => ⟨st, L1, z1, ?_⟩) id⟩
  dsimp only
  rw [ns.ix hi p]
  exact q
theorem kf_nil {X : Cx} {H0 : Hp} {M : Addr → Prop} {σ : L2.St} {L : LL} {Q : Bool → LL → Prop} (h : Q true L) : kf X H0 M [] σ L Q := h
theorem kf_one {X : Cx} {H0 : Hp} {M : Addr → Prop} {σ : L2.St} {L : LL} {Q : Bool → LL → Prop} {c : Expr} (h : kt X H0 M c σ L Q) : kf X H0 M [c] σ L Q := h
theorem take_snoc {α : Type} {xs : List α} {i : Nat} {x : α} (h : xs[i]? = some x) : xs.take (i + 1) = xs.take i ++ [x] := by
  rw [List.take_add_one, h]; rfl
end Xi

/-! ## Num -/
/-! Whole numbers: departures, arrivals, sums of lines. -/
namespace Xi
/-- the first departure from p on -/
abbrev dep (e t p : Int) : Int := p + (t - p) % e
abbrev arr (e t r p : Int) : Int := p + (t - p) % e + r
abbrev lat (e t r p : Int) : Int := p - r - (p - r - t) % e
theorem dep_ge {e t p : Int} (h : 0 < e) : p ≤ dep e t p := by have := Int.emod_nonneg (t - p) (b := e) (by omega); show p ≤ p + _; omega
theorem dep_lt {e t p : Int} (h : 0 < e) : dep e t p < p + e := by have := Int.emod_lt_of_pos (t - p) h; show p + _ < _; omega
theorem dep_on (e t p : Int) : e ∣ (dep e t p - t) := ⟨-((t - p) / e), by have := Int.mul_ediv_add_emod (t - p) e; show p + _ - t = _; rw [Int.mul_neg]; omega⟩
theorem dvd_lt {e y : Int} (hd : e ∣ y) (h : -e < y) (h0 : 0 < e) : 0 ≤ y := by
  obtain ⟨k, rfl⟩ := hd
  have : -1 < k := by
    by_cases q : -1 < k
    · exact q
    · have := Int.mul_le_mul_of_nonneg_left (show k ≤ -1 by omega) (Int.le_of_lt h0)
      omega
  exact Int.mul_nonneg (Int.le_of_lt h0) (by omega)
theorem dvd_zero {e y : Int} (hd : e ∣ y) (h : -e < y) (h1 : y < e) : y = 0 := by
  have h0 : 0 < e := by omega
  have a := dvd_lt hd h h0
  have b := dvd_lt (Int.dvd_neg.mpr hd) (by omega) h0
  omega
theorem dvd_gap {e y : Int} (hd : e ∣ y) (h : y < e) (h0 : 0 < e) : y ≤ 0 := by
  have := dvd_lt (Int.dvd_neg.mpr hd) (by omega) h0
  omega
/-- what a departure is -/
theorem dep_uniq {e t p x : Int} (hd : e ∣ (x - t)) (h1 : p ≤ x) (h2 : x < p + e) : dep e t p = x := by
  have h0 : 0 < e := by omega
  have a := dep_ge (t := t) (p := p) h0
  have b := dep_lt (t := t) (p := p) h0
  have c := Int.dvd_sub (dep_on e t p) hd
  have := dvd_zero c (by omega) (by omega)
  omega
theorem lat_le {e t r p : Int} (h : 0 < e) : lat e t r p ≤ p - r := by have := Int.emod_nonneg (p - r - t) (b := e) (by omega); show p - r - _ ≤ _; omega
theorem lat_gt {e t r p : Int} (h : 0 < e) : p - r - e < lat e t r p := by have := Int.emod_lt_of_pos (p - r - t) h; show _ < p - r - _; omega
theorem lat_on (e t r p : Int) : e ∣ (lat e t r p - t) := ⟨(p - r - t) / e, by have := Int.mul_ediv_add_emod (p - r - t) e; show p - r - _ - t = _; omega⟩
theorem lat_uniq {e t r p x : Int} (hd : e ∣ (x - t)) (h1 : x ≤ p - r) (h2 : p - r - e < x) : lat e t r p = x := by
  have h0 : 0 < e := by omega
  have a := lat_le (t := t) (r := r) (p := p) h0
  have b := lat_gt (t := t) (r := r) (p := p) h0
  have c := Int.dvd_sub (lat_on e t r p) hd
  have := dvd_zero c (by omega) (by omega)
  omega
theorem emod_dvd_sub (a e : Int) : e ∣ (a - a % e) := ⟨a / e, by have := Int.mul_ediv_add_emod a e; omega⟩
theorem dvd_neg_sub {e x y : Int} (h : e ∣ (x - y)) : e ∣ (y - x) := by
  have := Int.dvd_neg.mpr h
  rwa [Int.neg_sub] at this
/-! ### the sum of two lines -/
def addW (e t r f u : Int) : Int := (u - t - r) % (if f < e then f else e)
def addE (e f : Int) : Int := if f ≤ e then e else f
def addT (e t r f u : Int) : Int := if f ≤ e then t else (u - addW e t r f u - r) % f
def addR (e t r f u s : Int) : Int := r + addW e t r f u + s
section
variable {e t r f u s p : Int}
theorem addW_rng (he : 0 < e) (hf : 0 < f) : 0 ≤ addW e t r f u ∧ addW e t r f u < e ∧ addW e t r f u < f := by
  unfold addW
  split
  · have a := Int.emod_nonneg (u - t - r) (b := f) (by omega)
    have b := Int.emod_lt_of_pos (u - t - r) hf
    omega
  · have a := Int.emod_nonneg (u - t - r) (b := e) (by omega)
    have b := Int.emod_lt_of_pos (u - t - r) he
    omega
theorem fit_le (he : 0 < e) (hf : 0 < f) (fit : e ∣ f ∨ f ∣ e) (h : f ≤ e) : f ∣ e := by
  rcases fit with q | q
  · have := Int.le_of_dvd hf q
    have e2 : e = f := by omega
    rw [e2]; exact Int.dvd_refl _
  · exact q
theorem addW_dvd (he : 0 < e) (hf : 0 < f) (fit : e ∣ f ∨ f ∣ e) : (f ≤ e → f ∣ (u - t - r - addW e t r f u)) ∧ (¬ f ≤ e → e ∣ (u - t - r - addW e t r f u)) := by
  refine ⟨fun h => ?_, fun h => ?_⟩
  · unfold addW
    split
    · exact emod_dvd_sub _ _
    · have e2 : e = f := by omega
      rw [e2]; exact emod_dvd_sub _ _
  · unfold addW
    rw [if_neg (by omega)]
    exact emod_dvd_sub _ _
theorem add_arr (he : 0 < e) (hf : 0 < f) (fit : e ∣ f ∨ f ∣ e) : arr (addE e f) (addT e t r f u) (addR e t r f u s) p = arr f u s (arr e t r p) := by
  have W := addW_rng (e := e) (t := t) (r := r) (f := f) (u := u) he hf
  have D := addW_dvd (t := t) (r := r) (u := u) he hf fit
  have d1 := dep_ge (t := t) (p := p) he
  have d2 := dep_lt (t := t) (p := p) he
  have d3 := dep_on e t p
  show dep _ _ p + addR e t r f u s = dep f u (dep e t p + r) + s
  unfold addE addT addR
  by_cases h : f ≤ e
  · rw [if_pos h, if_pos h]
    have q := fit_le he hf fit h
    have D1 := D.1 h
    have : dep f u (dep e t p + r) = dep e t p + r + addW e t r f u := by
      refine dep_uniq ?_ (by omega) (by omega)
      have := Int.dvd_sub (Int.dvd_trans q d3) D1
      rw [show dep e t p - t - (u - t - r - addW e t r f u) = dep e t p + r + addW e t r f u - u by omega] at this
      exact this
    rw [this]; omega
  · rw [if_neg h, if_neg h]
    have q : e ∣ f := by
      rcases fit with q | q
      · exact q
      · have := Int.le_of_dvd he q
        omega
    have D2 := D.2 h
    generalize addW e t r f u = w at *
    have g1 := dep_ge (t := u) (p := dep e t p + r) hf
    have g2 := dep_lt (t := u) (p := dep e t p + r) hf
    have g3 := dep_on f u (dep e t p + r)
    generalize dep f u (dep e t p + r) = G at *
    generalize dep e t p = d at *
    -- G - r - w is a departure of e, too
    have k1 : e ∣ (G - r - w - d) := by
      have a := Int.dvd_sub (Int.dvd_add (Int.dvd_trans q g3) D2) d3
      rw [show G - u + (u - t - r - w) - (d - t) = G - r - w - d by omega] at a
      exact a
    have k2 := dvd_lt k1 (by omega) he
    have k3 : G - r - w - d - (f - e) ≤ 0 := by
      refine dvd_gap (Int.dvd_sub k1 (Int.dvd_sub q (Int.dvd_refl e))) (by omega) he
    have : dep f ((u - w - r) % f) p = G - r - w := by
      refine dep_uniq ?_ (by omega) (by omega)
      have a := Int.dvd_add g3 (emod_dvd_sub (u - w - r) f)
      rw [show G - u + (u - w - r - (u - w - r) % f) = G - r - w - (u - w - r) % f by omega] at a
      exact a
    rw [this]; omega
theorem add_rng (he : 0 < e) (hf : 0 < f) (ht : 0 ≤ t) (ht2 : t < e) (hr : 0 ≤ r) (hs : 0 ≤ s) : 0 < addE e f ∧ 0 ≤ addT e t r f u ∧ addT e t r f u < addE e f ∧ 0 ≤ addR e t r f u s := by
  have W := addW_rng (e := e) (t := t) (r := r) (f := f) (u := u) he hf
  unfold addE addT addR
  by_cases h : f ≤ e
  · rw [if_pos h, if_pos h]; omega
  · rw [if_neg h, if_neg h]
    have a := Int.emod_nonneg (u - addW e t r f u - r) (b := f) (by omega)
    have b := Int.emod_lt_of_pos (u - addW e t r f u - r) hf
    omega
end
theorem dep_self {e t : Int} : dep e t t = t := by
  show t + (t - t) % e = t
  rw [Int.sub_self, Int.zero_emod]; omega
theorem dep_of_dvd {e t p : Int} (h : e ∣ (p - t)) : dep e t p = p := by
  show p + (t - p) % e = p
  rw [Int.emod_eq_zero_of_dvd (dvd_neg_sub h)]; omega
theorem dep_next {e t p : Int} (he : 0 < e) (h : e ∣ (p - t)) : dep e t (p + 1) = p + e := by
  refine dep_uniq ?_ (by omega) (by omega)
  have := Int.dvd_add h (Int.dvd_refl e)
  rw [show p - t + e = p + e - t by omega] at this
  exact this
/-- two lines with the same arrivals are one -/
theorem arr_inj {e t r f u s : Int} (he : 0 < e) (ht : 0 ≤ t) (ht2 : t < e) (hf : 0 < f) (hu : 0 ≤ u) (hu2 : u < f) (h : ∀ p, arr e t r p = arr f u s p) : e = f ∧ t = u ∧ r = s := by
  have h1 : dep e t t + r = dep f u t + s := h t
  have h2 : dep e t u + r = dep f u u + s := h u
  rw [dep_self] at h1 h2
  have a := dep_ge (t := u) (p := t) hf
  have b := dep_ge (t := t) (p := u) he
  have rs : r = s := by omega
  have d1 : dep f u t = t := by omega
  have d2 : dep e t u = u := by omega
  have k1 := dep_on f u t
  rw [d1] at k1
  have k2 := dep_on e t u
  rw [d2] at k2
  have h3 : dep e t (t + 1) + r = dep f u (t + 1) + s := h (t + 1)
  rw [dep_next he (by rw [Int.sub_self]; exact Int.dvd_zero e), dep_next hf k1] at h3
  have ef : e = f := by omega
  subst ef
  have := dvd_zero k1 (by omega) (by omega)
  exact ⟨rfl, by omega, rs⟩
/-! ### many rounds, lines backward, never later -/
def mulR (e r n : Int) : Int := n * r + (n - 1) * ((-r) % e)
theorem neg_rng {e r : Int} (he : 0 < e) : 0 ≤ (-r) % e ∧ (-r) % e < e := ⟨Int.emod_nonneg _ (by omega), Int.emod_lt_of_pos _ he⟩
/-- r and its wait: whole headways -/
def whole (e r : Int) : Int := r + (-r) % e
theorem whole_dvd (e r : Int) : e ∣ whole e r := by
  have := dvd_neg_sub (emod_dvd_sub (-r) e)
  rw [show (-r) % e - (-r) = whole e r by unfold whole; omega] at this
  exact this
theorem mulR_whole (e r n : Int) : mulR e r n = n * whole e r - (-r) % e := by
  unfold mulR whole
  rw [Int.mul_add, Int.sub_mul, Int.one_mul]; omega
theorem mulR_one (e r : Int) : mulR e r 1 = r := by
  unfold mulR
  rw [Int.one_mul, Int.sub_self, Int.zero_mul]; omega
theorem mulR_rng {e r n : Int} (he : 0 < e) (hr : 0 ≤ r) (hn : 1 ≤ n) : 0 ≤ mulR e r n := by
  unfold mulR
  have a := neg_rng (r := r) he
  have b := Int.mul_nonneg (show 0 ≤ n by omega) hr
  have c := Int.mul_nonneg (show 0 ≤ n - 1 by omega) a.1
  omega
theorem mulR_le {e r n N A : Int} (he : 0 < e) (hr : 0 ≤ r) (hn : 1 ≤ n) (hN : n ≤ N) (h1 : r ≤ A) (h2 : e ≤ A) : mulR e r n ≤ N * A + N * A := by
  unfold mulR
  have a := neg_rng (r := r) he
  have b := Int.mul_le_mul hN h1 hr (by omega)
  have c := Int.mul_le_mul (show n - 1 ≤ N by omega) (show (-r) % e ≤ A by omega) a.1 (by omega)
  omega
theorem emod_neg_whole {e r n : Int} (he : 0 < e) : (-(mulR e r n)) % e = (-r) % e := by
  obtain ⟨k, hk⟩ := whole_dvd e r
  have a := neg_rng (r := r) he
  rw [mulR_whole, hk, show -(n * (e * k) - (-r) % e) = (-r) % e + e * (-(n * k)) by rw [Int.mul_neg, Int.mul_left_comm]; omega, Int.add_mul_emod_self_left, Int.emod_eq_of_lt a.1 a.2]
/-- rounds and rounds -/
theorem addW_self {e t r u : Int} : addW e t r e u = (u - t - r) % e := by unfold addW; rw [if_neg (by omega)]
theorem add_mulR {e t r m n : Int} (he : 0 < e) : addE e e = e ∧ addT e t (mulR e r m) e t = t ∧ addR e t (mulR e r m) e t (mulR e r n) = mulR e r (m + n) := by
  refine ⟨by unfold addE; simp, by unfold addT; simp, ?_⟩
  unfold addR
  rw [addW_self, show t - t - mulR e r m = -(mulR e r m) by omega, emod_neg_whole he, mulR_whole, mulR_whole, mulR_whole, Int.add_mul]
  omega
theorem mulR_mulR {e r m n : Int} (he : 0 < e) : mulR e (mulR e r m) n = mulR e r (n * m) := by
  rw [mulR_whole e (mulR e r m), mulR_whole e r (n * m), emod_neg_whole he]
  have : whole e (mulR e r m) = m * whole e r := by
    unfold whole
    rw [emod_neg_whole he]
    have := mulR_whole e r m
    unfold whole at this
    omega
  rw [this, Int.mul_assoc]
theorem ceil_whole (e r : Int) : -((-r) / e) * e = whole e r := by
  unfold whole
  have := Int.mul_ediv_add_emod (-r) e
  rw [Int.neg_mul, Int.mul_comm]; omega
theorem arr_mulR {e t r n p : Int} (he : 0 < e) : arr e t (mulR e r (n + 1)) p = arr e t r (arr e t (mulR e r n) p) := by
  obtain ⟨a, b, c⟩ := add_mulR (t := t) (r := r) (m := n) (n := 1) he
  rw [mulR_one] at c
  have := add_arr (e := e) (t := t) (r := mulR e r n) (f := e) (u := t) (s := r) (p := p) he he (.inl (Int.dvd_refl e))
  rw [a, b, c] at this
  exact this
/-- the opposite direction of time -/
def backT (e t r : Int) : Int := (-t - r) % e
theorem backT_rng {e t r : Int} (he : 0 < e) : 0 ≤ backT e t r ∧ backT e t r < e := ⟨Int.emod_nonneg _ (by omega), Int.emod_lt_of_pos _ he⟩
theorem backT_dvd (e t r : Int) : e ∣ (backT e t r + t + r) := by
  have := dvd_neg_sub (emod_dvd_sub (-t - r) e)
  rw [show (-t - r) % e - (-t - r) = backT e t r + t + r by unfold backT; omega] at this
  exact this
theorem back_arr {e t r p : Int} (he : 0 < e) : arr e (backT e t r) r p = -(lat e t r (-p)) := by
  have a := lat_le (t := t) (r := r) (p := -p) he
  have b := lat_gt (t := t) (r := r) (p := -p) he
  have c := lat_on e t r (-p)
  have d := backT_dvd e t r
  have : dep e (backT e t r) p = -(lat e t r (-p)) - r := by
    refine dep_uniq ?_ (by omega) (by omega)
    have := Int.dvd_neg.mpr (Int.dvd_add c d)
    rw [show -(lat e t r (-p) - t + (backT e t r + t + r)) = -(lat e t r (-p)) - r - backT e t r by omega] at this
    exact this
  show dep e (backT e t r) p + r = _
  rw [this]; omega
theorem back_lat {e t r p : Int} (he : 0 < e) : lat e (backT e t r) r p = -(arr e t r (-p)) := by
  have a := dep_ge (t := t) (p := -p) he
  have b := dep_lt (t := t) (p := -p) he
  have c := dep_on e t (-p)
  have d := backT_dvd e t r
  refine lat_uniq ?_ (by show -(dep e t (-p) + r) ≤ _; omega) (by show _ < -(dep e t (-p) + r); omega)
  have := Int.dvd_neg.mpr (Int.dvd_add c d)
  rw [show -(dep e t (-p) - t + (backT e t r + t + r)) = -(dep e t (-p) + r) - backT e t r by omega] at this
  exact this
theorem back_back {e t r : Int} (he : 0 < e) (h0 : 0 ≤ t) (h1 : t < e) : backT e (backT e t r) r = t := by
  have a := backT_rng (t := backT e t r) (r := r) he
  have b := backT_dvd e t r
  have c := backT_dvd e (backT e t r) r
  have := Int.dvd_sub c b
  rw [show backT e (backT e t r) r + backT e t r + r - (backT e t r + t + r) = backT e (backT e t r) r - t by omega] at this
  have := dvd_zero this (by omega) (by omega)
  omega
/-- never later -/
def laterL (e f : Int) : Int := if f < e then f else e
def laterB (e t r f u s : Int) : Bool := decide (e - laterL e f + (t - u) % laterL e f + r ≤ s)
theorem later_iff {e t r f u s : Int} (he : 0 < e) (hf : 0 < f) (fit : e ∣ f ∨ f ∣ e) : laterB e t r f u s = true ↔ ∀ p, arr e t r p ≤ arr f u s p := by
  unfold laterB
  rw [decide_eq_true_iff]
  have hl : 0 < laterL e f := by unfold laterL; split <;> omega
  have le : laterL e f ∣ e ∧ laterL e f ∣ f ∧ laterL e f ≤ e := by
    unfold laterL
    split
    · rename_i h
      exact ⟨fit_le he hf fit (by omega), Int.dvd_refl f, by omega⟩
    · rename_i h
      refine ⟨Int.dvd_refl e, ?_, Int.le_refl e⟩
      rcases fit with q | q
      · exact q
      · have := Int.le_of_dvd he q
        rw [show f = e by omega]; exact Int.dvd_refl e
  obtain ⟨de, df, lle⟩ := le
  have heq : laterL e f = f ∨ laterL e f = e := by unfold laterL; split <;> simp
  generalize laterL e f = l at *
  have m1 := Int.emod_nonneg (t - u) (b := l) (by omega)
  have m2 := Int.emod_lt_of_pos (t - u) hl
  have m3 := emod_dvd_sub (t - u) l
  generalize (t - u) % l = m at *
  constructor
  · intro h p
    have a1 := dep_ge (t := t) (p := p) he
    have a2 := dep_lt (t := t) (p := p) he
    have a3 := dep_on e t p
    have b1 := dep_ge (t := u) (p := p) hf
    have b3 := dep_on f u p
    show dep e t p + r ≤ dep f u p + s
    -- both departures: their difference is m modulo l, less than e from below
    have k := Int.dvd_sub (Int.dvd_sub (Int.dvd_trans de a3) (Int.dvd_trans df b3)) (Int.dvd_neg.mpr m3)
    rw [show dep e t p - t - (dep f u p - u) - -(t - u - m) = dep e t p - dep f u p - m by omega] at k
    have k2 : dep e t p - dep f u p - m - (e - l) ≤ 0 := dvd_gap (Int.dvd_sub k (Int.dvd_sub de (Int.dvd_refl l))) (by omega) hl
    omega
  · intro h
    -- a start at which the other one departs and this one waits the longest
    obtain ⟨x, hx1, hx2⟩ : ∃ x, f ∣ (x - u) ∧ dep e t x = x + (e - l + m) := by
      rcases heq with q | q
      · subst q
        obtain ⟨j, hj⟩ := m3
        obtain ⟨i, hi⟩ := de
        refine ⟨t - (e - l + m), ⟨j - i + 1, by rw [Int.mul_add, Int.mul_sub, ← hj, ← hi]; omega⟩, ?_⟩
        refine dep_uniq ⟨0, by omega⟩ (by omega) (by omega)
      · subst q
        refine ⟨u, ⟨0, by omega⟩, dep_uniq ?_ (by omega) (by omega)⟩
        have := Int.dvd_neg.mpr m3
        rw [show -(t - u - m) = u + (l - l + m) - t by omega] at this
        exact this
    have := h x
    have e1 : dep e t x + r ≤ dep f u x + s := this
    rw [dep_of_dvd hx1, hx2] at e1
    omega
/-! ### arrivals and latest starts -/
theorem galois {e t r p q : Int} (he : 0 < e) : arr e t r p ≤ q ↔ p ≤ lat e t r q := by
  have a1 := dep_ge (t := t) (p := p) he
  have a2 := dep_lt (t := t) (p := p) he
  have a3 := dep_on e t p
  have b1 := lat_le (t := t) (r := r) (p := q) he
  have b2 := lat_gt (t := t) (r := r) (p := q) he
  have b3 := lat_on e t r q
  show dep e t p + r ≤ q ↔ _
  have k := Int.dvd_sub a3 b3
  rw [show dep e t p - t - (lat e t r q - t) = dep e t p - lat e t r q by omega] at k
  constructor
  · intro h
    have := dvd_gap k (by omega) he
    omega
  · intro h
    have := dvd_gap k (by omega) he
    omega
theorem lat_add {e t r f u s q : Int} (he : 0 < e) (hf : 0 < f) (fit : e ∣ f ∨ f ∣ e) : lat (addE e f) (addT e t r f u) (addR e t r f u s) q = lat e t r (lat f u s q) := by
  have hE : 0 < addE e f := by unfold addE; split <;> omega
  have key : ∀ p, p ≤ lat (addE e f) (addT e t r f u) (addR e t r f u s) q ↔ p ≤ lat e t r (lat f u s q) := fun p => by
    rw [← galois hE, add_arr he hf fit, galois hf, galois he]
  have a := (key (lat (addE e f) (addT e t r f u) (addR e t r f u s) q)).mp (Int.le_refl _)
  have b := (key (lat e t r (lat f u s q))).mpr (Int.le_refl _)
  omega
theorem back_add {e t r f u s : Int} (he : 0 < e) (h1 : 0 ≤ t) (h2 : t < e) (hf : 0 < f) (h3 : 0 ≤ u) (h4 : u < f) (hr : 0 ≤ r) (hs : 0 ≤ s) (fit : e ∣ f ∨ f ∣ e) :
    addE e f = addE f e ∧ backT (addE e f) (addT e t r f u) (addR e t r f u s) = addT f (backT f u s) s e (backT e t r) ∧ addR e t r f u s = addR f (backT f u s) s e (backT e t r) r := by
  obtain ⟨a1, a2, a3, a4⟩ := add_rng (r := r) (u := u) (s := s) he hf h1 h2 hr hs
  have bf := backT_rng (t := u) (r := s) hf
  have be := backT_rng (t := t) (r := r) he
  obtain ⟨c1, c2, c3, c4⟩ := add_rng (e := f) (t := backT f u s) (r := s) (f := e) (u := backT e t r) (s := r) hf he bf.1 bf.2 hs hr
  have b := backT_rng (t := addT e t r f u) (r := addR e t r f u s) a1
  refine arr_inj a1 b.1 b.2 c1 c2 c3 fun p => ?_
  rw [add_arr hf he fit.symm, back_arr a1, back_arr he, back_arr hf, Int.neg_neg, lat_add he hf fit]
theorem later_back {e t r f u s : Int} (he : 0 < e) (hf : 0 < f) (fit : e ∣ f ∨ f ∣ e) : laterB e (backT e t r) r f (backT f u s) s = laterB e t r f u s := by
  rw [Bool.eq_iff_iff, later_iff he hf fit, later_iff he hf fit]
  constructor
  · intro h p
    rw [galois he]
    have := h (-(arr f u s p))
    rw [back_arr he, back_arr hf, Int.neg_neg] at this
    have k : p ≤ lat f u s (arr f u s p) := (galois hf).mp (Int.le_refl _)
    omega
  · intro h p
    rw [back_arr he, back_arr hf]
    have k : arr f u s (lat f u s (-p)) ≤ -p := (galois hf).mpr (Int.le_refl _)
    have k2 := h (lat f u s (-p))
    have : lat f u s (-p) ≤ lat e t r (-p) := (galois he).mp (by omega)
    omega
theorem back_mul {e t r n : Int} (he : 0 < e) : backT e t (mulR e r n) = backT e t r := by
  unfold backT
  have h : e ∣ ((-t - mulR e r n) - (-t - r)) := by
    rw [mulR_whole]
    have a := whole_dvd e r
    have b : e ∣ (n * whole e r) := Int.dvd_trans a ⟨n, Int.mul_comm _ _⟩
    have := Int.dvd_sub a b
    unfold whole at this ⊢
    rw [show -t - (n * (r + -r % e) - -r % e) - (-t - r) = r + -r % e - n * (r + -r % e) by omega]
    exact this
  exact Int.emod_eq_emod_iff_emod_sub_eq_zero.mpr (Int.emod_eq_zero_of_dvd h)
end Xi

/-! ## Bi -/
/-! Built-ins over lists; headways that fit. -/
namespace Xi
open PySem PySem.Spec PyProof.Rows L2
section
variable {X : Cx} {H0 : Hp} {M : Addr → Prop} {L : LL} {Q : V → LL → Prop} {a : Addr} {ns : List Int} {bs : List Bool}
theorem rc_sum (hc : X.calm = true) (ia : At L a (.lst (ns.map V.int))) (h : Q (.int ns.sum) L) : rc X H0 M (.builtin "sum") [.ref a] L Q := rc_of (cr_sum hc) fun H z => ⟨a, ns, rfl, z.sq ia, L, z, h⟩
theorem rc_maxL (hc : X.calm = true) (ia : At L a (.lst (ns.map V.int))) (h0 : 0 < ns.length) (h : ∀ m, m ∈ ns → (∀ y, y ∈ ns → y ≤ m) → Q (.int m) L) : rc X H0 M (.builtin "max") [.ref a] L Q := rc_of (cr_max hc) fun H z => ⟨a, ns, rfl, z.sq ia, h0, fun m h1 h2 => ⟨L, z, h m h1 h2⟩⟩
theorem rc_minL (hc : X.calm = true) (ia : At L a (.lst (ns.map V.int))) (h0 : 0 < ns.length) (h : ∀ m, m ∈ ns → (∀ y, y ∈ ns → m ≤ y) → Q (.int m) L) : rc X H0 M (.builtin "min") [.ref a] L Q := rc_of (cr_min hc) fun H z => ⟨a, ns, rfl, z.sq ia, h0, fun m h1 h2 => ⟨L, z, h m h1 h2⟩⟩
theorem rc_any (hc : X.calm = true) (ia : At L a (.lst (bs.map V.bl))) (h : Q (.bl (bs.any id)) L) : rc X H0 M (.builtin "any") [.ref a] L Q := rc_of (cr_any hc) fun H z => ⟨a, bs, rfl, z.sq ia, L, z, h⟩
theorem rc_all (hc : X.calm = true) (ia : At L a (.lst (bs.map V.bl))) (h : Q (.bl (bs.all id)) L) : rc X H0 M (.builtin "all") [.ref a] L Q := rc_of (cr_all hc) fun H z => ⟨a, bs, rfl, z.sq ia, L, z, h⟩
theorem rc_sortI (ia : At L a (.lst (ns.map V.int))) (h : ∀ (ns' : List Int) (p : Addr), ns'.Perm ns → ns'.Pairwise (· ≤ ·) → H0 p = none → Q (.ref p) ((p, .lst (ns'.map V.int)) :: L)) : rc X H0 M (.builtin "sorted") [.ref a] L Q :=
  rc_of cr_sortedI fun H z => ⟨a, ns, rfl, z.sq ia, fun ns' p h1 h2 n => ⟨_, z.new n, h ns' p h1 h2 (z.fresh n)⟩⟩
end
/-- headways, any two of which fit -/
abbrev FitI (a b : Int) : Prop := a ∣ b ∨ b ∣ a
theorem chain_pairwise : ∀ {xs : List Int}, (∀ x ∈ xs, 1 ≤ x) → xs.Pairwise (· ≤ ·) → ((List.zipWith (fun s g : Int => decide (g % s = 0)) xs xs.tail).all id = true ↔ xs.Pairwise FitI)
  | [], _, _ => by simp
  | [x], _, _ => by simp
  | x :: y :: r, h, so => by
    have ih := chain_pairwise (xs := y :: r) (fun z hz => h z (List.mem_cons_of_mem _ hz)) (List.pairwise_cons.mp so).2
    show ((decide (y % x = 0) :: List.zipWith _ (y :: r) r).all id = true) ↔ _
    rw [List.all_cons, Bool.and_eq_true]
    show (decide (y % x = 0) = true ∧ (List.zipWith _ (y :: r) (y :: r).tail).all id = true) ↔ _
    rw [ih, decide_eq_true_iff]
    have hx := h x List.mem_cons_self
    have hle := (List.pairwise_cons.mp so).1
    have hle2 := (List.pairwise_cons.mp (List.pairwise_cons.mp so).2).1
    constructor
    · rintro ⟨hd, hp⟩
      have d : x ∣ y := Int.dvd_of_emod_eq_zero hd
      refine List.pairwise_cons.mpr ⟨fun z hz => .inl ?_, hp⟩
      rcases List.mem_cons.mp hz with e | hz
      · rw [e]; exact d
      · rcases (List.pairwise_cons.mp hp).1 z hz with q | q
        · exact Int.dvd_trans d q
        · have hy := h y (by simp)
          have hzp := h z (by simp [hz])
          have := Int.le_of_dvd (by omega) q
          have e : z = y := Int.le_antisymm this (hle2 z hz)
          rw [e]; exact d
    · intro hq
      obtain ⟨hp, hr⟩ := List.pairwise_cons.mp hq
      refine ⟨?_, hr⟩
      rcases hp y List.mem_cons_self with q | q
      · exact Int.emod_eq_zero_of_dvd q
      · have hy := h y (by simp)
        have := Int.le_of_dvd (by omega) q
        have e : y = x := Int.le_antisymm this (hle y List.mem_cons_self)
        rw [e]; exact Int.emod_self
theorem fit_perm {xs ys : List Int} (p : xs.Perm ys) : xs.Pairwise FitI ↔ ys.Pairwise FitI := p.pairwise_iff fun h => h.symm
section
variable {X : Cx} {H0 : Hp} {M : Addr → Prop} {L : LL} {σ : L2.St} {Q : Option Int → LL → Prop} {e : Expr}
theorem ko_some (h : ke X H0 M e σ L fun x L1 => ∃ i, x = .int i ∧ Q (some i) L1) : ko X H0 M (some e) σ L Q := h
theorem ko_none (h : Q none L) : ko X H0 M none σ L Q := h
end
theorem cut_tail (xs : List V) : cutV xs (some 1) none = xs.tail := by
  cases xs with
  | nil => rfl
  | cons x r =>
    show List.take _ (List.drop _ (x :: r)) = r
    have e1 : HT.sIx (x :: r).length 0 (some 1) = 1 := by simp [HT.sIx]
    have e2 : HT.sIx (x :: r).length (x :: r).length none = (x :: r).length := by simp [HT.sIx]
    rw [e1, e2]
    show List.take ((x :: r).length - 1) r = r
    exact List.take_of_length_le (by simp)
end Xi

/-! ## Own -/
/-! Operators' methods as the top left them; isinstance with own classes; names of the module. -/
namespace Xi
open PySem PySem.Spec PyProof.Rows L2 PySem.W
theorem dn_add : PySem.dunder "add" = ("__add__" : Str) := by decide +kernel
theorem dr_add : dunderR "add" = ("__radd__" : Str) := by decide +kernel
theorem dn_mul : PySem.dunder "mul" = ("__mul__" : Str) := by decide +kernel
theorem dr_mul : dunderR "mul" = ("__rmul__" : Str) := by decide +kernel
/-- a class's name is short -/
def shortName (cd : ClassData) : Bool := decide (cd.name.cps.foldl (fun k c => k + (Str.utf8Of c).length) 0 ≤ 100) && Nat.ble (missMsg cd.name ("__radd__" : Str)).length 1000 && Nat.ble (missMsg cd.name ("__rmul__" : Str)).length 1000
theorem nm_add {cd : ClassData} (h : shortName cd = true) : (missMsg cd.name ("__radd__" : Str)).length ≤ sizeLine := by
  unfold shortName at h
  simp only [Bool.and_eq_true] at h
  exact Nat.le_trans (Nat.le_of_ble_eq_true h.1.2) (by decide)
theorem nm_mul {cd : ClassData} (h : shortName cd = true) : (missMsg cd.name ("__rmul__" : Str)).length ≤ sizeLine := by
  unfold shortName at h
  simp only [Bool.and_eq_true] at h
  exact Nat.le_trans (Nat.le_of_ble_eq_true h.2) (by decide)
theorem Fam.of {K : PySem.W.Frag} {C f : Addr} {nm : String} {x y : Str} {cd : ClassData} (e1 : PySem.dunder nm = x) (e2 : dunderR nm = y) (h1 : findIn K (.ref C) x = some (some (.ref f))) (h2 : isFn K (.ref f) = true) (h3 : selfFirst K C = true) (h4 : findIn K (.ref C) y = some none)
    (h5 : typeIn K (.ref C) = some (.type "type")) (h6 : clsIn K C = some cd) (h7 : shortName cd = true) (h8 : shortName cd = true → (missMsg cd.name y).length ≤ sizeLine) : Fam K C nm f := by
  subst e1 e2
  refine ⟨h1, h2, h3, h4, h5, cd, h6, ?_, h8 h7⟩
  unfold shortName at h7
  simp only [Bool.and_eq_true, decide_eq_true_eq] at h7
  exact h7.1.1
theorem Top0.of {K : PySem.W.Frag} {nm : String} {y : Str} (e2 : dunderR nm = y) (h1 : nsIn K cStatics "thirdparty.any" = some none) (h2 : findIn K (.type "type") y = some none) (h3 : findIn K (.type "type") "__getattribute__" = some (some (.builtin "type.__getattribute__"))) (h4 : findIn K (.type "type") "__getattr__" = some none)
    (h5 : subIn K (.type "type") (.type "type") = some true) (h6 : y.length ≤ 1000) : Top0 K nm := by
  subst e2
  exact ⟨h1, h2, h3, h4, h5, Nat.le_trans h6 (by decide)⟩
structure FunF (K : PySem.W.Frag) (Cs : Addr → Prop) (nm : String) (m qual : Str) (st : Stmt) : Prop where
  ex : ∃ f fd, Fun K m qual st f fd ∧ (∀ C, Cs C → Fam K C nm f) ∧ (∀ C D, Cs C → Cs D → ∃ b, subIn K (.ref D) (.ref C) = some b) ∧ Top0 K nm
theorem FunF.ok {P : Program} {w : World} {K : PySem.W.Frag} {mg : Str → Option Value} {base : Heap} {k : Nat} {m qual : Str} {st : Stmt} {sp : Sp} {ps : List Str} {Cs : Addr → Prop} {nm : String} (F : FunF K Cs nm m qual st) (b : ∀ f fd, Fun K m qual st f fd → Binds K fd ps [])
    (h : ∀ f fd, Fun K m qual st f fd → Fk P w K mg base CX0 k f fd ps sp) : OpT P w K mg base CX0 k Cs nm sp := by
  obtain ⟨f, fd, F, fam, sub, top⟩ := F.ex
  exact ⟨f, fd, ps, h f fd F, fam, sub, top, b f fd F⟩
/-! ### isinstance -/
structure IsK (K : PySem.W.Frag) (C : Addr) : Prop where
  ha : findIn K (.ref C) "__class__" = some (some (.builtin "object.__class__"))
  hm : mroIn K C (.type "object") = some true
structure Is0 (K : PySem.W.Frag) : Prop where
  hn : specialIn K (.builtin "object.__class__") "__get__" = some (some (.builtin "getset_descriptor.__get__"))
  ht : takesIn K (.builtin "object.__class__") = some true
section
variable {X : Cx} {H0 : Hp} {M : Addr → Prop} {L : LL} {Q : V → LL → Prop} {a C D dx : Addr} {fs : List (Str × V)} {b : Bool} {σ : L2.St} {pos : Pos}
theorem rc_isiO (ia : At L a (.ins C dx fs)) (c : Cls X.K C) (k : IsK X.K C) (z0 : Is0 X.K) (h3 : kitOne X.K (.ref C) (.ref D) = some b) (h : Q (.bl b) L) : rc X H0 M (.builtin "isinstance") [.ref a, .ref D] L Q :=
  rc_isi (.own D) (fun H z => .base (.ins (z.get ia) c k.ha z0.hn z0.ht k.hm)) h3 h
variable {P : Program} {w : World} {K : PySem.W.Frag} {mg : Str → Option Value} {base : Heap} {k : Nat} {N Nv : List Str} {sc : Scope}
/-- a class of the module, by its name -/
theorem Body.gref {x : Str} (bd : Body X P w K mg base k N Nv sc) (hm : mg x = some (.ref D)) (hg : sc.names.lookup x = some .globalImplicit) (hd : (x == ("__debug__" : Str)) = false) (h : Q (.ref D) L) : ke X H0 M (.Name x pos) σ L Q :=
  ke_c (pe_glob (v := .ref D) (bd.gl hg) (bd.no hm) rfl hd) h
theorem Body.gint {x : Str} {i : Int} (bd : Body X P w K mg base k N Nv sc) (hm : ∃ t, mg x = some (.int i t)) (hg : sc.names.lookup x = some .globalImplicit) (hd : (x == ("__debug__" : Str)) = false) (h : Q (.int i) L) : ke X H0 M (.Name x pos) σ L Q :=
  let ⟨t, hm⟩ := hm
  ke_c (pe_glob (v := .int i) (bd.gl hg) (bd.no hm) ⟨t, rfl⟩ hd) h
end
end Xi

/-! ## Nest -/
/-! repr and == of lists and tuples with flat tuples and lists in them; list.index; data in L. -/
namespace Xi
open PySem PySem.Spec PyProof.Rows L2
/-- a plain value, or a flat list or tuple that stands in L, with its data -/
inductive Fn (L : LL) : V → PyData → Prop where
  | fl {v : V} {d : PyData} (h : Fl v d) : Fn L v d
  | tup {p : Addr} {vs : List V} {ds : List PyData} (ia : At L p (.tup vs)) (f : Fls vs ds) (hn : Nat.ble ds.length 100 = true) : Fn L (.ref p) (.tuple ds)
  | lst {p : Addr} {vs : List V} {ds : List PyData} (ia : At L p (.lst vs)) (f : Fls vs ds) (hn : Nat.ble ds.length 100 = true) : Fn L (.ref p) (.list ds)
inductive Fns (L : LL) : List V → List PyData → Prop where
  | nil : Fns L [] []
  | cons {v : V} {d : PyData} {vs : List V} {ds : List PyData} (h : Fn L v d) (t : Fns L vs ds) : Fns L (v :: vs) (d :: ds)
section
variable {K : PySem.W.Frag} {H0 H : Hp} {M : Addr → Prop} {L : LL} {vs : List V} {ds : List PyData} {v : V} {d : PyData}
theorem Fn.dp (h : Fn L v d) (z : Hs H0 M L H) : Dp K H v d := by
  cases h with
  | fl h => exact h.dp
  | tup ia f hn => exact .tup (z.st ia) f.dp
  | lst ia f hn => exact .lst (z.sq ia) f.dp
theorem Fns.dp (h : Fns L vs ds) (z : Hs H0 M L H) : DpAll K H vs ds := by
  induction h with
  | nil => exact .nil
  | cons h _ ih => exact .cons (h.dp z) ih
theorem Fn.facts (h : Fn L v d) : d.showable = true ∧ d.hasDict = false ∧ d.depth ≤ 2 ∧ d.shown.length ≤ 192400 := by
  cases h with
  | fl h => obtain ⟨a, b, c, e⟩ := h.facts; exact ⟨a, b, by omega, by omega⟩
  | tup ia f hn => obtain ⟨a, b, c, e⟩ := f.facts; exact ⟨by simpa [PyData.showable] using a, by simpa [PyData.hasDict] using b, by simp only [PyData.depth]; omega, Nat.le_trans (tuple_le e (Nat.le_of_ble_eq_true hn)) (by decide)⟩
  | lst ia f hn => obtain ⟨a, b, c, e⟩ := f.facts; exact ⟨by simpa [PyData.showable] using a, by simpa [PyData.hasDict] using b, by simp only [PyData.depth]; omega, Nat.le_trans (list_le e (Nat.le_of_ble_eq_true hn)) (by decide)⟩
theorem Fns.facts (h : Fns L vs ds) : PyData.showableAll ds = true ∧ PyData.hasDictAll ds = false ∧ PyData.depthAll ds ≤ 2 ∧ ∀ d ∈ ds, d.shown.length ≤ 192400 := by
  induction h with
  | nil => exact ⟨by simp [PyData.showableAll], by simp [PyData.hasDictAll], by simp [PyData.depthAll], fun _ h => (nomatch h)⟩
  | cons h _ ih =>
    obtain ⟨a, b, c, e⟩ := h.facts
    obtain ⟨a2, b2, c2, e2⟩ := ih
    refine ⟨by simp [PyData.showableAll, a, a2], by simp [PyData.hasDictAll, b, b2], by simp only [PyData.depthAll]; omega, fun x hx => ?_⟩
    rcases List.mem_cons.mp hx with z | z
    · rw [z]; exact e
    · exact e2 x z
theorem Fn.lay (h : Fn L v d) : d.canLay0 = true := by
  cases h with
  | fl h => exact h.lay
  | tup ia f hn => have a := f.lay; simpa [PyData.canLay0] using a
  | lst ia f hn => have a := f.lay; simpa [PyData.canLay0] using a
theorem Fns.lay (h : Fns L vs ds) : PyData.canLayAll0 ds = true := by
  induction h with
  | nil => simp [PyData.canLayAll0]
  | cons h _ ih => simp [PyData.canLayAll0, h.lay, ih]
theorem Fns.shL (h : Fns L vs ds) : SeqAt.shaped (.list ds) = true := by
  have a := h.lay
  have b := h.facts.2.2.1
  exact Bool.and_eq_true_iff.mpr ⟨by simpa [PyData.canLay0] using a, decide_eq_true (by simp only [PyData.depth]; omega)⟩
theorem Fns.shT (h : Fns L vs ds) : SeqAt.shaped (.tuple ds) = true := by
  have a := h.lay
  have b := h.facts.2.2.1
  exact Bool.and_eq_true_iff.mpr ⟨by simpa [PyData.canLay0] using a, decide_eq_true (by simp only [PyData.depth]; omega)⟩
/-- the same data are equal -/
theorem eqvL_same {ds es : List PyData} (e : ds = es) (h : PyData.canLayAll0 ds = true) : PyData.eqv (.list ds) (.list es) = true := by
  subst e
  exact PySem.SeqAt.eqv_refl _ (by simpa [PyData.canLay0] using h)
theorem eqvT_same {ds es : List PyData} (e : ds = es) (h : PyData.canLayAll0 ds = true) : PyData.eqv (.tuple ds) (.tuple es) = true := by
  subst e
  exact PySem.SeqAt.eqv_refl _ (by simpa [PyData.canLay0] using h)
end
section
variable {X : Cx} {H0 : Hp} {M : Addr → Prop} {L : LL} {Q : V → LL → Prop} {k : Nat} {p q : Addr} {vs xs ys : List V} {ds es : List PyData}
theorem rc_reprNL (hr : Room k X.A) (gd : X.A.guards = some []) (ia : At L p (.lst vs)) (f : Fns L vs ds) (hn : Nat.ble ds.length 80 = true) (h : Q (.str (PyData.list ds).shown) L) : rc X H0 M (.builtin "repr") [.ref p] L Q := by
  obtain ⟨a, b, c, e⟩ := f.facts
  refine rc_repr hr gd (fun H z => .lst (z.sq ia) (f.dp z)) (by simpa [PyData.showable] using a) (by simpa [PyData.hasDict] using b) (by simp only [PyData.depth]; omega) ?_ h
  exact Nat.le_trans (list_le e (Nat.le_of_ble_eq_true hn)) (by decide)
theorem rc_reprNT (hr : Room k X.A) (gd : X.A.guards = some []) (ia : At L p (.tup vs)) (f : Fns L vs ds) (hn : Nat.ble ds.length 80 = true) (h : Q (.str (PyData.tuple ds).shown) L) : rc X H0 M (.builtin "repr") [.ref p] L Q := by
  obtain ⟨a, b, c, e⟩ := f.facts
  refine rc_repr hr gd (fun H z => .tup (z.st ia) (f.dp z)) (by simpa [PyData.showable] using a) (by simpa [PyData.hasDict] using b) (by simp only [PyData.depth]; omega) ?_ h
  exact Nat.le_trans (tuple_le e (Nat.le_of_ble_eq_true hn)) (by decide)
theorem ro_eqNL (hr : Room k X.A) (ia : At L p (.lst xs)) (ib : At L q (.lst ys)) (f : Fns L xs ds) (g : Fns L ys es) (h : Q (.bl (PyData.eqv (.list ds) (.list es))) L) : ro X H0 M (compareOp .Eq) (.ref p) (.ref q) L Q :=
  ro_of (op_eqD (by have := hr.un; omega)) fun H z => ⟨_, _, .lst (z.sq ia) (f.dp z), .lst (z.sq ib) (g.dp z), f.shL, g.shL, L, z, h⟩
theorem ro_neNL (hr : Room k X.A) (ia : At L p (.lst xs)) (ib : At L q (.lst ys)) (f : Fns L xs ds) (g : Fns L ys es) (h : Q (.bl (!PyData.eqv (.list ds) (.list es))) L) : ro X H0 M (compareOp .NotEq) (.ref p) (.ref q) L Q :=
  ro_of (op_neD (by have := hr.un; omega)) fun H z => ⟨_, _, .lst (z.sq ia) (f.dp z), .lst (z.sq ib) (g.dp z), f.shL, g.shL, L, z, h⟩
/-- .. that are seen to be the same -/
theorem ro_eqLs (hr : Room k X.A) (ia : At L p (.lst xs)) (ib : At L q (.lst ys)) (f : Fns L xs ds) (g : Fns L ys es) (e : ds = es) (h : Q (.bl true) L) : ro X H0 M (compareOp .Eq) (.ref p) (.ref q) L Q :=
  ro_eqNL hr ia ib f g (by rw [eqvL_same e f.lay]; exact h)
theorem ro_neLs (hr : Room k X.A) (ia : At L p (.lst xs)) (ib : At L q (.lst ys)) (f : Fns L xs ds) (g : Fns L ys es) (e : ds = es) (h : Q (.bl false) L) : ro X H0 M (compareOp .NotEq) (.ref p) (.ref q) L Q :=
  ro_neNL hr ia ib f g (by rw [eqvL_same e f.lay]; exact h)
theorem ro_eqTs (hr : Room k X.A) (ia : At L p (.tup xs)) (ib : At L q (.tup ys)) (f : Fls xs ds) (g : Fls ys es) (e : ds = es) (h : Q (.bl true) L) : ro X H0 M (compareOp .Eq) (.ref p) (.ref q) L Q :=
  ro_eqT hr ia ib f g (by rw [eqvT_same e f.lay]; exact h)
theorem ro_neTs (hr : Room k X.A) (ia : At L p (.tup xs)) (ib : At L q (.tup ys)) (f : Fls xs ds) (g : Fls ys es) (e : ds = es) (h : Q (.bl false) L) : ro X H0 M (compareOp .NotEq) (.ref p) (.ref q) L Q :=
  ro_neT hr ia ib f g (by rw [eqvT_same e f.lay]; exact h)
end
theorem pickB_str {x y : Str} {A B : Prop} (e : x = y) (h : A) : PickB (decide (x = y)) A B := pickB_dY e h
section
variable {X : Cx} {H0 : Hp} {M : Addr → Prop} {L : LL} {Q : V → LL → Prop} {o e : Expr} {σ : L2.St} {pos apos : Pos}
theorem flat_ints (is : List Int) : (is.map V.int).all flatV = true := by
  rw [List.all_eq_true]
  intro x hx
  obtain ⟨i, _, rfl⟩ := List.mem_map.mp hx
  rfl
/-- xs.index(m), numbers -/
theorem ke_idx (hbase : attributeBase o "index" X.env (eval o X.env) = eval o X.env) (hfew : ((backTo pos (starEach [e] X.env)).all (fun x => !x.1) && (backToKw pos (keywordEach [] X.env)).all (fun x => x.1.isSome)
      && decide (([e] : List Expr).length + ([] : List Keyword).length + (if ([] : List Keyword).isEmpty then 0 else 1) < 30)) = true) (hline : (apos.endLine == pos.line) = true) (hs : starEach [e] X.env = (false, eval e X.env) :: starEach [] X.env) (hpl : (backTo pos (starEach [] X.env)).any (·.1) = false)
    (h : ke X H0 M o σ L fun x L1 => ∃ (q : Addr) (is : List Int), x = .ref q ∧ At L1 q (.lst (is.map V.int)) ∧ ke X H0 M e σ L1 fun v L2 => ∃ (m : Int) (j : Nat), v = .int m ∧ At L2 q (.lst (is.map V.int)) ∧ is[j]? = some m ∧ (∀ i, i < j → is[i]? ≠ some m) ∧ Q (.int j) L2) :
    ke X H0 M (.Call (.Attribute o "index" apos) [e] [] pos) σ L Q := fun H z =>
  we_of (pe_bm PySem.F.plainAttrs_list PySem.F.slot_list_index PySem.F.type_list_index mt_index pe_we (pa_cons pe_we pa_nil hs) hbase hfew hline hs hpl)
    (we_mono (h H z) fun x H1 ⟨L1, z1, q, is, ex, ia, k⟩ => by
      subst ex
      refine ⟨.inl ⟨rfl, _, z1.sq ia⟩, we_mono (k H1 z1) fun v H2 ⟨L2, z2, m, j, ev, ib, hj, hno, r⟩ => ?_⟩
      subst ev
      refine ⟨q, is.map V.int, .int m, j, .int m, rfl, rfl, z2.sq ib, rfl, flat_ints is, by rw [List.getElem?_map, hj]; rfl, by simp [eqV], fun i z' hi hz => ?_, L2, z2, r⟩
      rw [List.getElem?_map] at hz
      obtain ⟨y, hy, rfl⟩ := Option.map_eq_some_iff.mp hz
      have ne : y ≠ m := fun e => hno i hi (by rw [hy, e])
      simpa [eqV] using ne)
end
/-! ### slices as the walker asks for them -/
section
variable {K : PySem.W.Frag} {H0 : Hp} {M : Addr → Prop} {L : LL} {Q : V → LL → Prop} {p : Addr} {xs : List V} {x : V} {l u : Option Int}
theorem sl_at (ia : At L p (.lst xs)) (k : New H0 (.lst (cutV xs l u)) L Q) : ∃ p' xs', V.ref p = .ref p' ∧ (At L p' (.lst xs') ∨ (SqL K H0 p' xs' ∧ ¬ M p')) ∧ New H0 (.lst (cutV xs' l u)) L Q := ⟨p, xs, rfl, .inl ia, k⟩
/-- xs[1:] -/
theorem sl_1 (ia : At L p (.lst (x :: xs))) (k : New H0 (.lst xs) L Q) : ∃ p' xs', V.ref p = .ref p' ∧ (At L p' (.lst xs') ∨ (SqL K H0 p' xs' ∧ ¬ M p')) ∧ New H0 (.lst (cutV xs' (some 1) none)) L Q := ⟨p, _, rfl, .inl ia, by rw [cut_tail]; exact k⟩
end
/-! ### == of tuples and lists, flat or one level deep; numbers of any size -/
inductive Gf : V → PyData → Prop where
  | int {i : Int} : Gf (.int i) (.int i)
  | str {x : Str} (h : PyData.strOk x = true) : Gf (.str x) (.str x)
  | non : Gf .non .none
  | bl {b : Bool} : Gf (.bl b) (.bool b)
inductive Gfs : List V → List PyData → Prop where
  | nil : Gfs [] []
  | cons {v : V} {d : PyData} {vs : List V} {ds : List PyData} (h : Gf v d) (t : Gfs vs ds) : Gfs (v :: vs) (d :: ds)
inductive Gn (L : LL) : V → PyData → Prop where
  | fl {v : V} {d : PyData} (h : Gf v d) : Gn L v d
  | tup {p : Addr} {vs : List V} {ds : List PyData} (ia : At L p (.tup vs)) (f : Gfs vs ds) : Gn L (.ref p) (.tuple ds)
  | lst {p : Addr} {vs : List V} {ds : List PyData} (ia : At L p (.lst vs)) (f : Gfs vs ds) : Gn L (.ref p) (.list ds)
inductive Gns (L : LL) : List V → List PyData → Prop where
  | nil : Gns L [] []
  | cons {v : V} {d : PyData} {vs : List V} {ds : List PyData} (h : Gn L v d) (t : Gns L vs ds) : Gns L (v :: vs) (d :: ds)
section
variable {K : PySem.W.Frag} {H0 H : Hp} {M : Addr → Prop} {L : LL} {vs : List V} {ds : List PyData} {v : V} {d : PyData}
theorem Gf.dp (h : Gf v d) : Dp K H v d := by
  cases h with
  | int => exact .int _
  | str h => exact .str _
  | non => exact .non
  | bl => exact .bl _
theorem Gfs.dp (h : Gfs vs ds) : DpAll K H vs ds := by
  induction h with
  | nil => exact .nil
  | cons h _ ih => exact .cons h.dp ih
theorem Gf.lay (h : Gf v d) : d.canLay0 = true ∧ d.depth ≤ 1 := by
  cases h with
  | int => exact ⟨by simp [PyData.canLay0], by simp [PyData.depth]⟩
  | str h => exact ⟨by simp [PyData.canLay0, h], by simp [PyData.depth]⟩
  | non => exact ⟨by simp [PyData.canLay0], by simp [PyData.depth]⟩
  | bl => exact ⟨by simp [PyData.canLay0], by simp [PyData.depth]⟩
theorem Gfs.lay (h : Gfs vs ds) : PyData.canLayAll0 ds = true ∧ PyData.depthAll ds ≤ 1 := by
  induction h with
  | nil => exact ⟨by simp [PyData.canLayAll0], by simp [PyData.depthAll]⟩
  | cons h _ ih => exact ⟨by simp [PyData.canLayAll0, h.lay.1, ih.1], by have := h.lay.2; have := ih.2; simp only [PyData.depthAll]; omega⟩
theorem Gn.dp (h : Gn L v d) (z : Hs H0 M L H) : Dp K H v d := by
  cases h with
  | fl h => exact h.dp
  | tup ia f => exact .tup (z.st ia) f.dp
  | lst ia f => exact .lst (z.sq ia) f.dp
theorem Gns.dp (h : Gns L vs ds) (z : Hs H0 M L H) : DpAll K H vs ds := by
  induction h with
  | nil => exact .nil
  | cons h _ ih => exact .cons (h.dp z) ih
theorem Gn.lay (h : Gn L v d) : d.canLay0 = true ∧ d.depth ≤ 2 := by
  cases h with
  | fl h => exact ⟨h.lay.1, by have := h.lay.2; omega⟩
  | tup ia f => exact ⟨by simpa [PyData.canLay0] using f.lay.1, by have := f.lay.2; simp only [PyData.depth]; omega⟩
  | lst ia f => exact ⟨by simpa [PyData.canLay0] using f.lay.1, by have := f.lay.2; simp only [PyData.depth]; omega⟩
theorem Gns.lay (h : Gns L vs ds) : PyData.canLayAll0 ds = true ∧ PyData.depthAll ds ≤ 2 := by
  induction h with
  | nil => exact ⟨by simp [PyData.canLayAll0], by simp [PyData.depthAll]⟩
  | cons h _ ih => exact ⟨by simp [PyData.canLayAll0, h.lay.1, ih.1], by have := h.lay.2; have := ih.2; simp only [PyData.depthAll]; omega⟩
theorem Gns.shL (h : Gns L vs ds) : SeqAt.shaped (.list ds) = true := Bool.and_eq_true_iff.mpr ⟨by simpa [PyData.canLay0] using h.lay.1, decide_eq_true (by have := h.lay.2; simp only [PyData.depth]; omega)⟩
theorem Gns.shT (h : Gns L vs ds) : SeqAt.shaped (.tuple ds) = true := Bool.and_eq_true_iff.mpr ⟨by simpa [PyData.canLay0] using h.lay.1, decide_eq_true (by have := h.lay.2; simp only [PyData.depth]; omega)⟩
end
section
variable {X : Cx} {H0 : Hp} {M : Addr → Prop} {L : LL} {Q : V → LL → Prop} {k : Nat} {p q : Addr} {vs xs ys : List V} {ds es : List PyData}
theorem go_eqL (hr : Room k X.A) (ia : At L p (.lst xs)) (ib : At L q (.lst ys)) (f : Gns L xs ds) (g : Gns L ys es) (h : Q (.bl (PyData.eqv (.list ds) (.list es))) L) : ro X H0 M (compareOp .Eq) (.ref p) (.ref q) L Q :=
  ro_of (op_eqD (by have := hr.un; omega)) fun H z => ⟨_, _, .lst (z.sq ia) (f.dp z), .lst (z.sq ib) (g.dp z), f.shL, g.shL, L, z, h⟩
theorem go_neL (hr : Room k X.A) (ia : At L p (.lst xs)) (ib : At L q (.lst ys)) (f : Gns L xs ds) (g : Gns L ys es) (h : Q (.bl (!PyData.eqv (.list ds) (.list es))) L) : ro X H0 M (compareOp .NotEq) (.ref p) (.ref q) L Q :=
  ro_of (op_neD (by have := hr.un; omega)) fun H z => ⟨_, _, .lst (z.sq ia) (f.dp z), .lst (z.sq ib) (g.dp z), f.shL, g.shL, L, z, h⟩
theorem go_eqT (hr : Room k X.A) (ia : At L p (.tup xs)) (ib : At L q (.tup ys)) (f : Gns L xs ds) (g : Gns L ys es) (h : Q (.bl (PyData.eqv (.tuple ds) (.tuple es))) L) : ro X H0 M (compareOp .Eq) (.ref p) (.ref q) L Q :=
  ro_of (op_eqD (by have := hr.un; omega)) fun H z => ⟨_, _, .tup (z.st ia) (f.dp z), .tup (z.st ib) (g.dp z), f.shT, g.shT, L, z, h⟩
theorem go_neT (hr : Room k X.A) (ia : At L p (.tup xs)) (ib : At L q (.tup ys)) (f : Gns L xs ds) (g : Gns L ys es) (h : Q (.bl (!PyData.eqv (.tuple ds) (.tuple es))) L) : ro X H0 M (compareOp .NotEq) (.ref p) (.ref q) L Q :=
  ro_of (op_neD (by have := hr.un; omega)) fun H z => ⟨_, _, .tup (z.st ia) (f.dp z), .tup (z.st ib) (g.dp z), f.shT, g.shT, L, z, h⟩
/-- .. that are seen to be the same -/
theorem gs_eqL (hr : Room k X.A) (ia : At L p (.lst xs)) (ib : At L q (.lst ys)) (f : Gns L xs ds) (g : Gns L ys es) (e : ds = es) (h : Q (.bl true) L) : ro X H0 M (compareOp .Eq) (.ref p) (.ref q) L Q :=
  go_eqL hr ia ib f g (by rw [eqvL_same e f.lay.1]; exact h)
theorem gs_neL (hr : Room k X.A) (ia : At L p (.lst xs)) (ib : At L q (.lst ys)) (f : Gns L xs ds) (g : Gns L ys es) (e : ds = es) (h : Q (.bl false) L) : ro X H0 M (compareOp .NotEq) (.ref p) (.ref q) L Q :=
  go_neL hr ia ib f g (by rw [eqvL_same e f.lay.1]; exact h)
theorem gs_eqT (hr : Room k X.A) (ia : At L p (.tup xs)) (ib : At L q (.tup ys)) (f : Gns L xs ds) (g : Gns L ys es) (e : ds = es) (h : Q (.bl true) L) : ro X H0 M (compareOp .Eq) (.ref p) (.ref q) L Q :=
  go_eqT hr ia ib f g (by rw [eqvT_same e f.lay.1]; exact h)
theorem gs_neT (hr : Room k X.A) (ia : At L p (.tup xs)) (ib : At L q (.tup ys)) (f : Gns L xs ds) (g : Gns L ys es) (e : ds = es) (h : Q (.bl false) L) : ro X H0 M (compareOp .NotEq) (.ref p) (.ref q) L Q :=
  go_neT hr ia ib f g (by rw [eqvT_same e f.lay.1]; exact h)
theorem At.sub {L L' : LL} {a : Addr} {o : HO} (s : Sub L' L) (h : At L' a o) : At L a o := .of_mem (s.subset h.mem)
end
section
variable {X : Cx} {H0 : Hp} {M : Addr → Prop} {L : LL} {Q : V → LL → Prop}
theorem ro_pow5 (h : Q (.int 100000) L) : ro X H0 M (binaryOp .Pow) (.int 10) (.int 5) L Q := ro_powV 100000 ⟨by decide, by decide, by decide⟩ (by decide +kernel) h
theorem ro_pow6 (h : Q (.int 1000000) L) : ro X H0 M (binaryOp .Pow) (.int 10) (.int 6) L Q := ro_powV 1000000 ⟨by decide, by decide, by decide⟩ (by decide +kernel) h
theorem ro_pow7 (h : Q (.int 10000000) L) : ro X H0 M (binaryOp .Pow) (.int 10) (.int 7) L Q := ro_powV 10000000 ⟨by decide, by decide, by decide⟩ (by decide +kernel) h
theorem ro_pow10 (h : Q (.int 10000000000) L) : ro X H0 M (binaryOp .Pow) (.int 10) (.int 10) L Q := ro_powV 10000000000 ⟨by decide, by decide, by decide⟩ (by decide +kernel) h
theorem ro_pow14 (h : Q (.int 100000000000000) L) : ro X H0 M (binaryOp .Pow) (.int 10) (.int 14) L Q := ro_powV 100000000000000 ⟨by decide, by decide, by decide⟩ (by decide +kernel) h
theorem ro_pow15 (h : Q (.int 1000000000000000) L) : ro X H0 M (binaryOp .Pow) (.int 10) (.int 15) L Q := ro_powV 1000000000000000 ⟨by decide, by decide, by decide⟩ (by decide +kernel) h
theorem ro_pow19 (h : Q (.int 10000000000000000000) L) : ro X H0 M (binaryOp .Pow) (.int 10) (.int 19) L Q := ro_powV 10000000000000000000 ⟨by decide, by decide, by decide⟩ (by decide +kernel) h
theorem ro_pow28 (h : Q (.int 10000000000000000000000000000) L) : ro X H0 M (binaryOp .Pow) (.int 10) (.int 28) L Q := ro_powV 10000000000000000000000000000 ⟨by decide, by decide, by decide⟩ (by decide +kernel) h
theorem ro_pow29 (h : Q (.int 100000000000000000000000000000) L) : ro X H0 M (binaryOp .Pow) (.int 10) (.int 29) L Q := ro_powV 100000000000000000000000000000 ⟨by decide, by decide, by decide⟩ (by decide +kernel) h
theorem ro_pow31 (h : Q (.int 10000000000000000000000000000000) L) : ro X H0 M (binaryOp .Pow) (.int 10) (.int 31) L Q := ro_powV 10000000000000000000000000000000 ⟨by decide, by decide, by decide⟩ (by decide +kernel) h
theorem ro_pow38 (h : Q (.int 100000000000000000000000000000000000000) L) : ro X H0 M (binaryOp .Pow) (.int 10) (.int 38) L Q := ro_powV 100000000000000000000000000000000000000 ⟨by decide, by decide, by decide⟩ (by decide +kernel) h
theorem ro_pow39 (h : Q (.int 1000000000000000000000000000000000000000) L) : ro X H0 M (binaryOp .Pow) (.int 10) (.int 39) L Q := ro_powV 1000000000000000000000000000000000000000 ⟨by decide, by decide, by decide⟩ (by decide +kernel) h
theorem ro_pow50 (h : Q (.int 100000000000000000000000000000000000000000000000000) L) : ro X H0 M (binaryOp .Pow) (.int 10) (.int 50) L Q := ro_powV 100000000000000000000000000000000000000000000000000 ⟨by decide, by decide, by decide⟩ (by decide +kernel) h
theorem ro_pow56 (h : Q (.int 100000000000000000000000000000000000000000000000000000000) L) : ro X H0 M (binaryOp .Pow) (.int 10) (.int 56) L Q := ro_powV 100000000000000000000000000000000000000000000000000000000 ⟨by decide, by decide, by decide⟩ (by decide +kernel) h
theorem ro_pow57 (h : Q (.int 1000000000000000000000000000000000000000000000000000000000) L) : ro X H0 M (binaryOp .Pow) (.int 10) (.int 57) L Q := ro_powV 1000000000000000000000000000000000000000000000000000000000 ⟨by decide, by decide, by decide⟩ (by decide +kernel) h
theorem ro_pow61 (h : Q (.int 10000000000000000000000000000000000000000000000000000000000000) L) : ro X H0 M (binaryOp .Pow) (.int 10) (.int 61) L Q := ro_powV 10000000000000000000000000000000000000000000000000000000000000 ⟨by decide, by decide, by decide⟩ (by decide +kernel) h
theorem ro_pow63 (h : Q (.int 1000000000000000000000000000000000000000000000000000000000000000) L) : ro X H0 M (binaryOp .Pow) (.int 10) (.int 63) L Q := ro_powV 1000000000000000000000000000000000000000000000000000000000000000 ⟨by decide, by decide, by decide⟩ (by decide +kernel) h
theorem ro_pow64 (h : Q (.int 10000000000000000000000000000000000000000000000000000000000000000) L) : ro X H0 M (binaryOp .Pow) (.int 10) (.int 64) L Q := ro_powV 10000000000000000000000000000000000000000000000000000000000000000 ⟨by decide, by decide, by decide⟩ (by decide +kernel) h
end
theorem pickB_neT {ds es : List PyData} {A B : Prop} (e : ds = es) (l : PyData.canLayAll0 ds = true) (h : B) : PickB (!PyData.eqv (.tuple ds) (.tuple es)) A B := pickB_N (by rw [eqvT_same e l]; rfl) h
theorem pickB_neL {ds es : List PyData} {A B : Prop} (e : ds = es) (l : PyData.canLayAll0 ds = true) (h : B) : PickB (!PyData.eqv (.list ds) (.list es)) A B := pickB_N (by rw [eqvL_same e l]; rfl) h
theorem pickB_eqT {ds es : List PyData} {A B : Prop} (e : ds = es) (l : PyData.canLayAll0 ds = true) (h : A) : PickB (PyData.eqv (.tuple ds) (.tuple es)) A B := pickB_Y (eqvT_same e l) h
theorem pickB_eqL {ds es : List PyData} {A B : Prop} (e : ds = es) (l : PyData.canLayAll0 ds = true) (h : A) : PickB (PyData.eqv (.list ds) (.list es)) A B := pickB_Y (eqvL_same e l) h
/-- the body begins; the names as they stand -/
theorem wb_go {X : Cx} {M : Addr → Prop} {L : LL} {H : Hp} {σ σ0 : L2.St} {Q : VK} {ss : List Stmt} (e : σ0 = σ) (hs : Hs H M L H) (h : kb X H M ss (fun _ L' => ∀ H', Hs H M L' H' → Q .non H') (fun v L' => ∀ H', Hs H M L' H' → Q v H') (fun _ _ => False) (fun _ _ => False) σ L) :
    wb X ss { nx := fun _ H' => Q .non H', rt := Q } σ0 H := by
  subst e
  exact wb_kb hs h
end Xi

/-! ## Eq -/
/-! == and != between instances of a family of classes with one __eq__ of their own. -/
namespace Xi
open PySem PySem.Spec PyProof.Rows L2 PySem.W
/-- what a class says of == -/
structure EqF (K : PySem.W.Frag) (C f : Addr) : Prop where
  eq : findIn K (.ref C) "__eq__" = some (some (.ref f))
  fn : isFn K (.ref f) = true
  ne : findIn K (.ref C) "__ne__" = some (some (.builtin "object.__ne__"))
  ob : mroIn K C (.type "object") = some true
section
variable {prog : Program} {w : World} {A : Around} {E : Value → Shared → Prop} {s : Shared} {K : PySem.W.Frag} {C D f x y : Addr} {ox oy : Obj} {od oe : Option Obj}
theorem tc_eq {b : Value} {Q : Value → Shared → Prop} (X : K.In s.heap) (I : InstAt s.heap x ox C od) (FC : EqF K C f) (h : wpAny (model prog w) A (call (.ref f) [.ref x, b]) (PySem.W.CmpBack Q) E s) :
    wpAny (model prog w) A (tryCompare (.ref x) "__eq__" b) (fun r s' => ∃ v, r = some v ∧ Q v s') E s := by
  unfold tryCompare
  refine wpAny_bind (ifBound_K X I FC.eq FC.fn (wpAny_mono h (fun v s' hv => ?_) fun _ _ e => e))
  cases v <;> first | exact hv.elim | exact wpAny_pure ⟨_, rfl, hv⟩
theorem ifBound_objNe {args : List Value} {Q : Option Value → Shared → Prop} (X : K.In s.heap) (I : InstAt s.heap x ox C od) (hs : findIn K (.ref C) "__ne__" = some (some (.builtin "object.__ne__")))
    (h : wpAny (model prog w) A (call (.builtin "object.__ne__") (.ref x :: args)) (fun v => Q (some v)) E s) : wpAny (model prog w) A (callSpecialIfBound? (.ref x) "__ne__" args) Q E s := by
  simp only [callSpecialIfBound?, bindSpecialIfBound?]
  refine wpAny_holding (wpAny_bind (wpAny_bind (wpAny_bind (I.type.here ((looks_findIn X hs).here ?_)))))
  refine wpAny_bind (wpAny_askSetting (wpAny_ite ?_))
  have fin : wpAny (model prog w) A (call (.builtin "object.__ne__") ([.ref x] ++ args) >>= fun v => pure (some v)) Q E s := wpAny_bind (wpAny_mono h (fun v s' h' => wpAny_pure h') fun _ _ h' => h')
  split
  · exact wpAny_bind (wpAny_of_eq (F.cmp_object.ne.bind _) (wpAny_pure (by exact fin)))
  · exact wpAny_tryCatch (wpAny_bind (wpAny_of_eq (F.cmp_object.ne.bind _) (wpAny_pure (by exact fin))))
theorem tc_ne {b : Value} {Q : Value → Shared → Prop} (hu : A.units + 1 < cLine) (X : K.In s.heap) (I : InstAt s.heap x ox C od) (FC : EqF K C f)
    (h : wpAny (model prog w) A.in1 (call (.ref f) [.ref x, b]) (fun v s' => ∃ k, v = .bool k ∧ Q (.bool (!k)) s') E s) :
    wpAny (model prog w) A (tryCompare (.ref x) "__ne__" b) (fun r s' => ∃ v, r = some v ∧ Q v s') E s := by
  unfold tryCompare
  refine wpAny_bind (ifBound_objNe X I FC.ne (wpAny_call (codeAny_call_builtin F.cmp_object.ne.plain F.cmpEntry_ne (check_slot F.cmpKind_ne F.cmpSplit_ne (I.type.andThen (looks_mroIn X FC.ob)) (F.cmpArgs_ne _ _) ?_))))
  show wpAny (model prog w) A.in1 (Builtin.«object.__ne__» ⟨[.ref x, b], []⟩) _ _ s
  unfold Builtin.«object.__ne__»
  repeat (first
    | with_reducible refine wpAny_cRoomFor hu ?_
    | (refine wpAny_bind (m := callSpecialIfBound? (.ref x) (Str.ofString "__eq__") [b])
        (ifBound_K X I FC.eq FC.fn (wpAny_mono h (fun r s' hr => by
          obtain ⟨b, rfl, hq⟩ := hr
          repeat (first | exact wpAny_pure ⟨_, rfl, hq⟩ | exact wpAny_truthy_bool hq | (refine wpAny_bind (m := truthy (.bool _)) (wpAny_truthy_bool ?_)) | wp_step)) fun _ _ e => e)))
    | wp_step)
theorem cmp_fam {op : CmpOp} {Q : Value → Shared → Prop} (ho : op = .Eq ∨ op = .NotEq) (hu : A.units < cLine) (X : K.In s.heap) (I : InstAt s.heap x ox C od) (J : InstAt s.heap y oy D oe) (hs : ∃ b, subIn K (.ref D) (.ref C) = some b)
    (h1 : wpAny (model prog w) A (tryCompare (.ref x) (cmpInfo op).2.1 (.ref y)) (fun r s' => ∃ v, r = some v ∧ Q v s') E s)
    (h2 : wpAny (model prog w) A (tryCompare (.ref y) (cmpInfo op).2.2 (.ref x)) (fun r s' => ∃ v, r = some v ∧ Q v s') E s) : wpAny (model prog w) A (richCompare op (.ref x) (.ref y)) Q E s := by
  obtain ⟨b, hb⟩ := hs
  unfold richCompare
  simp only [oneThing_ref]
  refine wpAny_holding (wpAny_bind (wpAny_cRoomFor hu ?_))
  refine wpAny_bind (I.type.here (wpAny_bind (J.type.here ?_)))
  split
  · refine wpAny_bind ((looks_subIn X hb).here ?_)
    cases b with
    | true =>
      rw [if_pos rfl]
      refine wpAny_bind (wpAny_mono h2 (fun r s' z => ?_) fun _ _ e => e)
      obtain ⟨v, rfl, hq⟩ := z
      first | exact wpAny_pure hq | exact wpAny_bind (wpAny_rule (wpAny_pure hq)) | exact wpAny_bind (wpAny_rule hq)
    | false =>
      simp only [Bool.false_eq_true, if_false]
      refine wpAny_bind (wpAny_mono h1 (fun r s' z => ?_) fun _ _ e => e)
      obtain ⟨v, rfl, hq⟩ := z
      exact wpAny_pure hq
  · refine wpAny_bind (wpAny_pure ?_)
    simp only [Bool.false_eq_true, if_false]
    refine wpAny_bind (wpAny_mono h1 (fun r s' z => ?_) fun _ _ e => e)
    obtain ⟨v, rfl, hq⟩ := z
    exact wpAny_pure hq
end
structure EqT (P : Program) (w : World) (K : PySem.W.Frag) (mg : Str → Option Value) (base : Heap) (CX : CXT) (k : Nat) (Cs : Addr → Prop) (sp : Sp) : Prop where
  ex : ∃ f fd ps, Fk P w K mg base CX k f fd ps sp ∧ (∀ C, Cs C → EqF K C f) ∧ (∀ C D, Cs C → Cs D → ∃ b, subIn K (.ref D) (.ref C) = some b) ∧ Binds K fd ps []
structure FunE (K : PySem.W.Frag) (Cs : Addr → Prop) (m qual : Str) (st : Stmt) : Prop where
  ex : ∃ f fd, Fun K m qual st f fd ∧ (∀ C, Cs C → EqF K C f) ∧ (∀ C D, Cs C → Cs D → ∃ b, subIn K (.ref D) (.ref C) = some b)
theorem FunE.ok {P : Program} {w : World} {K : PySem.W.Frag} {mg : Str → Option Value} {base : Heap} {k : Nat} {m qual : Str} {st : Stmt} {sp : Sp} {ps : List Str} {Cs : Addr → Prop} (F : FunE K Cs m qual st) (b : ∀ f fd, Fun K m qual st f fd → Binds K fd ps [])
    (h : ∀ f fd, Fun K m qual st f fd → Fk P w K mg base CX0 k f fd ps sp) : EqT P w K mg base CX0 k Cs sp := by
  obtain ⟨f, fd, F, fam, sub⟩ := F.ex
  exact ⟨f, fd, ps, h f fd F, fam, sub, b f fd F⟩
section
variable {X : Cx} {P : Program} {w : World} {K : PySem.W.Frag} {mg : Str → Option Value} {base : Heap} {k j : Nat} {N Nv : List Str} {sc : Scope} {sp : Sp} {a b C D dx dy : Addr} {fs gs : List (Str × V)} {Cs : Addr → Prop}
variable {H0 : Hp} {M : Addr → Prop} {L : LL} {Q : V → LL → Prop}
theorem Body.eqI (bd : Body X P w K mg base k N Nv sc) (O : EqT P w K mg base CX0 j Cs sp) (hj : Nat.ble j k = true) (ix : At L a (.ins C dx fs)) (cC : Cs C) (iy : At L b (.ins D dy gs)) (cD : Cs D)
    (h1 : rs H0 M sp EE [.ref a, .ref b] L Q) (h2 : rs H0 M sp EE [.ref b, .ref a] L Q) : ro X H0 M (compareOp .Eq) (.ref a) (.ref b) L Q := fun H z pins s σ v u I rx ry => by
  obtain ⟨f, fd, ps, F, fam, sub, hb⟩ := O.ex
  rw [← bd.prog, ← bd.w, ← bd.K, ← bd.mg, ← bd.base] at F
  rw [← bd.K] at fam sub hb
  obtain rfl : v = Value.ref a := rx
  obtain rfl : u = Value.ref b := ry
  obtain ⟨ox, od, J, _⟩ := StX.insC_at I (.inr ⟨dx, fs, z.get ix⟩)
  obtain ⟨oy, oe, J2, _⟩ := StX.insC_at I (.inr ⟨dy, gs, z.get iy⟩)
  have hr := bd.rm (Nat.le_of_ble_eq_true hj)
  show wpAny (model X.prog X.w) X.A (richCompare .Eq (.ref a) (.ref b)) _ _ _
  refine cmp_fam (.inl rfl) (by have := hr.un; omega) I.kIn J J2 (sub C D cC cD) (tc_eq I.kIn J (fam C cC) ?_) (tc_eq I.kIn J2 (fam D cD) ?_)
  · refine wpAny_mono (fk_run (us := [.ref a, .ref b]) (vs := [.ref a, .ref b]) F hr bd.gd hb .nil px0 I (.cons rfl (.cons rfl .nil)) (h1 H z)) (fun r s2 ⟨v, H2, I3, rv, q⟩ => ?_) fun _ _ e => e
    exact cmp_back (Q := fun _ _ => True) rv ⟨v, H2, I3, rv, q⟩
  · refine wpAny_mono (fk_run (us := [.ref b, .ref a]) (vs := [.ref b, .ref a]) F hr bd.gd hb .nil px0 I (.cons rfl (.cons rfl .nil)) (h2 H z)) (fun r s2 ⟨v, H2, I3, rv, q⟩ => ?_) fun _ _ e => e
    exact cmp_back (Q := fun _ _ => True) rv ⟨v, H2, I3, rv, q⟩
theorem Body.neI (bd : Body X P w K mg base k N Nv sc) (O : EqT P w K mg base CX0 j Cs sp) (hj : Nat.ble (j + 1) k = true) (ix : At L a (.ins C dx fs)) (cC : Cs C) (iy : At L b (.ins D dy gs)) (cD : Cs D)
    (h1 : rs H0 M sp EE [.ref a, .ref b] L fun v L1 => ∃ k, v = .bl k ∧ Q (.bl (!k)) L1) (h2 : rs H0 M sp EE [.ref b, .ref a] L fun v L1 => ∃ k, v = .bl k ∧ Q (.bl (!k)) L1) : ro X H0 M (compareOp .NotEq) (.ref a) (.ref b) L Q := fun H z pins s σ v u I rx ry => by
  obtain ⟨f, fd, ps, F, fam, sub, hb⟩ := O.ex
  rw [← bd.prog, ← bd.w, ← bd.K, ← bd.mg, ← bd.base] at F
  rw [← bd.K] at fam sub hb
  obtain rfl : v = Value.ref a := rx
  obtain rfl : u = Value.ref b := ry
  obtain ⟨ox, od, J, _⟩ := StX.insC_at I (.inr ⟨dx, fs, z.get ix⟩)
  obtain ⟨oy, oe, J2, _⟩ := StX.insC_at I (.inr ⟨dy, gs, z.get iy⟩)
  have hr : Room (j + 1) X.A := bd.rm (Nat.le_of_ble_eq_true hj)
  have one : ∀ x y : Addr, rs H0 M sp EE [.ref x, .ref y] L (fun v L1 => ∃ k, v = .bl k ∧ Q (.bl (!k)) L1) → wpAny (model X.prog X.w) X.A.in1 (PySem.call (.ref f) [.ref x, .ref y]) (fun v s' => ∃ k, v = .bool k ∧ EP X pins σ (up H0 M Q) (.bool (!k)) s') X.xe s := fun x y h => by
    have q2 := h H z
    have ll : ([Value.ref x, Value.ref y] ++ []).length = ps.length := F.len _ _ _ _ q2
    have bb := hb s [.ref x, .ref y] I.kIn ll
    rw [List.append_nil] at bb
    refine wpAny_call (codeAny_mono (F.go X.A.in1 X.stack s H ⟨[.ref x, .ref y], []⟩ [.ref x, .ref y] [.ref x, .ref y] _ EE hr.in1 bd.gd I.env0.in1 bb (.cons rfl (.cons rfl .nil)) q2) fun res s2 hq => ?_)
    rcases res with er | fl
    · exact (px0 (E := EE) pins σ H s er s2 I hq)
    · cases fl with
      | ret u =>
        obtain ⟨v, H', I3, rv, L3, z3, kk, ev, q3⟩ := I.after hq
        subst ev
        cases rv
        exact ⟨kk, rfl, .bl (!kk), H', I3, rfl, L3, z3, q3⟩
      | next => exact hq.elim
      | brk => exact hq.elim
      | cont => exact hq.elim
  show wpAny (model X.prog X.w) X.A (richCompare .NotEq (.ref a) (.ref b)) _ _ _
  have hu : X.A.units + 1 < cLine := by have := hr.un; omega
  exact cmp_fam (.inr rfl) (by omega) I.kIn J J2 (sub C D cC cD) (tc_ne hu I.kIn J (fam C cC) (one a b h1)) (tc_ne hu I.kIn J2 (fam D cD) (one b a h2))
end
end Xi

/-! ## Slc -/
/-! Slices of tuples with a step. -/
namespace Xi
open PySem PySem.Spec PyProof.Rows L2 PySem.SeqAt HT
section
variable {prog : Program} {w : World} {A : Around} {E : Value → Shared → Prop} {s : Shared}
theorem applied_st {sl : Addr} {vl vu vs : Value} {lo hi st : Option Int} {n : Int} {Q : Int × Int × Nat → Shared → Prop} (hs : s.heap.IsSliceOf sl vl vu vs) (pl : IsPart vl lo) (pu : IsPart vu hi) (ps : IsPart vs st) (h0 : (st.getD 1 == 0) = false)
    (h : Q ((Builtin.Slice.sliceAdjust lo hi (st.getD 1) n).1, st.getD 1, Builtin.Slice.slicePlaces (Builtin.Slice.sliceAdjust lo hi (st.getD 1) n).1 (Builtin.Slice.sliceAdjust lo hi (st.getD 1) n).2 (st.getD 1)) s) :
    wpAny (model prog w) A (Builtin.Slice.sliceApplied (.ref sl) (pure n)) Q E s := by
  obtain ⟨os, hos, hcs, hds⟩ := id hs
  unfold Builtin.Slice.sliceApplied Builtin.Slice.sliceFields
  refine wpAny_bind (wpAny_bind (wpAny_field hos hds (x := vl) rfl (wpAny_bind (wpAny_field hos hds (x := vu) rfl (wpAny_bind (wpAny_field hos hds (x := vs) rfl (wpAny_pure ?_)))))))
  refine wpAny_bind (slicePart_ ps ?_)
  show wpAny _ _ (if (st.getD 1 == 0) = true then _ else _) _ _ s
  rw [if_neg (by rw [h0]; decide)]
  refine wpAny_bind (slicePart_ pl (wpAny_bind (slicePart_ pu (wpAny_bind (wpAny_pure ?_)))))
  exact wpAny_pure h
/-- the items of a slice with a step -/
abbrev pickSt {α : Type} (xs : List α) (lo step : Int) (k : Nat) : List α := (List.range k).filterMap fun (m : Nat) => xs[(lo + (m : Int) * step).toNat]?
theorem getItem_tuple_st {t sl : Addr} {items : Array Value} {vl vu vs : Value} {lo hi st : Option Int} {a b : Int} {c : Int} {k : Nat} {Q : Value → Shared → Prop} (ht : IsTup s.heap t items) (hs : s.heap.IsSliceOf sl vl vu vs) (pl : IsPart vl lo) (pu : IsPart vu hi) (ps : IsPart vs st)
    (ec : st.getD 1 = c) (h0 : (c == 0) = false) (h1 : (c == 1) = false) (ea : Builtin.Slice.sliceAdjust lo hi c (items.size : Int) = (a, b)) (ek : Builtin.Slice.slicePlaces a b c = k)
    (hz : (pickSt items.toList a c k).length ≤ sizeLine) (h : Q (.ref s.heap.objs.size) { s with heap := s.heap.push { cls := .type "tuple", data := .seq (pickSt items.toList a c k).toArray } }) :
    wpAny (model prog w) A (getItem (.ref t) (.ref sl)) Q E s := by
  have htake : sizeOk (.seq (pickSt items.toList a c k).toArray) := by
    show (pickSt items.toList a c k).toArray.size ≤ sizeLine
    rw [List.size_toArray]; exact hz
  obtain ⟨os, hos, hcs, hds⟩ := id hs
  have hTs : s.TypeIs (.ref sl) "slice" := ⟨os, hos, hcs⟩
  unfold getItem
  try with_reducible refine wpAny_holding ?_
  first | refine wpAny_bind (wpAny_pure ?_) | skip
  refine wpAny_bind (wpAny_sequenceKey ht.typeIs (by decide) ?_)
  refine wpAny_bind (wpAny_callSpecial?_slot (name := Str.ofString "__getitem__") ht.typeIs PyProof.Rows.slot_tuple_getitem
    (wpAny_call_entry PyProof.Rows.slot_tuple_getitem ht.typeIs entry_tuple_getitem ?_ (args_tuple_getitem _ _)))
  show wpAny _ _ (Builtin.Tuple.tupleItemsOf (.ref t) >>= _) _ _ s
  refine wpAny_bind (tupleItemsOf_ ht ?_)
  refine wpAny_bind (wpAny_typeOf hTs ?_)
  rw [if_pos (by decide)]
  refine wpAny_bind (applied_st hs pl pu ps (by rw [ec]; exact h0) ?_)
  rw [ec, ea, ek]
  have hno : ¬ ((a == 0 && c == 1 && k == items.size) = true) := by rw [h1, Bool.and_false, Bool.false_and]; decide
  show wpAny _ _ (if (a == 0 && c == 1 && k == items.size) = true then _ else _) _ _ s
  rw [if_neg hno]
  have e : (fun (m : Nat) => items[(a + (m : Int) * c).toNat]?) = fun (m : Nat) => items.toList[(a + (m : Int) * c).toNat]? := by
    funext m
    rw [Array.getElem?_toList]
  rw [e]
  first
    | exact wpAny_bind (m := Builtin.Tuple.tupleExact _) (wpAny_newObj_type (wpAny_pure ⟨_, rfl, wpAny_pure h⟩) htake)
    | exact wpAny_bind (m := Builtin.Tuple.tupleExact _) (wpAny_newObj_type (wpAny_bind (wpAny_pure (wpAny_pure ⟨_, rfl, wpAny_pure h⟩))) htake)
    | exact wpAny_bind (wpAny_bind (m := Builtin.Tuple.tupleExact _) (wpAny_newObj_type (wpAny_pure (wpAny_pure ⟨_, rfl, wpAny_pure h⟩)) htake))
    | exact wpAny_bind (wpAny_bind (m := Builtin.Tuple.tupleExact _) (wpAny_newObj_type (wpAny_pure ⟨_, rfl, wpAny_pure h⟩) htake))
end
theorem vals_filterMap {α : Type} {xs : List V} {us : List Value} (r : Vals xs us) (g : α → Nat) : ∀ l : List α, Vals (l.filterMap fun m => xs[g m]?) (l.filterMap fun m => us[g m]?)
  | [] => .nil
  | m :: l => by
    rw [List.filterMap_cons, List.filterMap_cons]
    have ih := vals_filterMap r g l
    cases h : xs[g m]? with
    | none =>
      have : us[g m]? = none := by
        rw [List.getElem?_eq_none_iff] at h ⊢
        rw [← r.length]; exact h
      rw [this]
      exact ih
    | some v =>
      obtain ⟨u, hu, ru⟩ := r.get h
      rw [hu]
      exact .cons ru ih
section
variable {X : Cx} {H0 : Hp} {M : Addr → Prop} {L : LL} {Q : V → LL → Prop} {e : Expr} {σ : L2.St} {pos p1 p2 p3 : Pos} {k : Nat}
/-- t[::2], a tuple -/
theorem ke_sl2 (h : ke X H0 M e σ L fun x L1 => ∃ p xs, x = .ref p ∧ At L1 p (.tup xs) ∧ ∃ b j, Builtin.Slice.sliceAdjust none none 2 (xs.length : Int) = (0, b) ∧ Builtin.Slice.slicePlaces 0 b 2 = j ∧ (pickSt xs 0 2 j).length ≤ sizeLine ∧ New H0 (.tup (pickSt xs 0 2 j)) L1 Q) :
    ke X H0 M (.Subscript e (.Slice none none (some (.Constant (.int 2) k p1)) p3) pos) σ L Q := fun H z pins s I => by
  refine Subscript_ (thn (h H z pins s I) fun v s1 ⟨x, H1, I1, r1, L1, z1, p, xs, ex, ia, b, j, ea, ek, hz, q⟩ => ?_)
  subst ex
  cases r1
  have hst : PO X (some (.Constant (.int 2) k p1)) (tPart (tC (.int 2))) := po_some pe_int
  refine wpAny_Slice (thn (po_none.run pins s1 σ H1 (fun o H2 => o = none ∧ H2 = H1) I1 ⟨rfl, rfl⟩) fun vl s2 ⟨l, H2, I2, pl, el, e2⟩ => ?_)
  subst el e2
  refine thn (po_none.run pins s2 σ H2 (fun o H3 => o = none ∧ H3 = H2) I2 ⟨rfl, rfl⟩) fun vu s3 ⟨u, H3, I3, pu, eu, e3⟩ => ?_
  subst eu e3
  refine thn (hst.run pins s3 σ H3 (fun o H4 => o = some 2 ∧ H4 = H3) I3 ⟨2, rfl, rfl, rfl⟩) fun vs s4 ⟨o, H4, I4, ps, eo, e4⟩ => ?_
  subst eo e4
  have I5 : Inv X pins σ H4 { s4 with heap := s4.heap.push { cls := .type "slice", data := .fields #[vl, vu, vs] } } := I4.kept (t' := s4.toks) fun b ob q => Heap.get?_push_of_some _ q
  obtain ⟨its, r, ht, hz2⟩ := I5.tuple (z1.st ia)
  have hlen : its.toArray.size = xs.length := by rw [List.size_toArray]; exact r.length.symm
  have rp : Vals (pickSt xs 0 2 j) (pickSt its 0 2 j) := vals_filterMap r (fun m : Nat => (0 + (m : Int) * 2).toNat) _
  show wpAny (model X.prog X.w) X.A (subscriptTail e (.Slice none none (some (.Constant (.int 2) k p1)) p3) (.ref p) (.ref s4.heap.objs.size)) _ X.xe { s4 with heap := s4.heap.push { cls := .type "slice", data := .fields #[vl, vu, vs] } }
  refine tail_any (ops := [.ref p, .ref s4.heap.objs.size]) ht.typeIs (PyProof.Rows.slot_tuple_getitem.lookup) ?_ (by with_unfolding_all rfl)
  refine getItem_tuple_st ht (Heap.IsSliceOf.new _ vl vu vs) pl pu ps (c := 2) rfl (by decide) (by decide) (by rw [hlen]; exact ea) ek (by show (pickSt its 0 2 j).length ≤ _; rw [← rp.length]; exact hz) ?_
  have n5 := I5.hok.fresh (Nat.le_refl _)
  refine ⟨.ref _, _, I5.laid (t' := s4.toks) (o := .tup (pickSt xs 0 2 j)) (fun b ob q => Heap.get?_push_of_some _ q) (Nat.le_refl _) ?_, rfl, new_up z1 q _ n5⟩
  exact ⟨hz, _, rp, IsTup.new _ _⟩
/-- .. of three items -/
theorem sl2_3 {x y z : V} {p : Addr} (ia : At L p (.tup [x, y, z])) (q : New H0 (.tup [x, z]) L Q) : ∃ p' xs, V.ref p = .ref p' ∧ At L p' (.tup xs) ∧ ∃ b j, Builtin.Slice.sliceAdjust none none 2 (xs.length : Int) = (0, b) ∧ Builtin.Slice.slicePlaces 0 b 2 = j ∧ (pickSt xs 0 2 j).length ≤ sizeLine ∧ New H0 (.tup (pickSt xs 0 2 j)) L Q :=
  ⟨p, _, rfl, ia, 3, 2, by show Builtin.Slice.sliceAdjust none none 2 3 = (0, 3); decide +kernel, by decide +kernel, by show 2 ≤ sizeLine; decide, q⟩
end
section
variable {X : Cx} {H0 : Hp} {M : Addr → Prop} {L : LL} {Q : V → LL → Prop} {a b : Bool}
theorem dec_bl : decide (V.bl a = V.bl b) = decide (a = b) := by
  by_cases e : a = b
  · subst e; simp
  · rw [decide_eq_false e, decide_eq_false fun q => e (V.bl.inj q)]
theorem ro_eqBl (h : Q (.bl (decide (a = b))) L) : ro X H0 M (compareOp .Eq) (.bl a) (.bl b) L Q := ro_of op_eq fun _ z => ⟨rfl, L, z, by rw [dec_bl]; exact h⟩
theorem ro_neBl (h : Q (.bl (!decide (a = b))) L) : ro X H0 M (compareOp .NotEq) (.bl a) (.bl b) L Q := ro_of op_ne fun _ z => ⟨rfl, L, z, by rw [dec_bl]; exact h⟩
end
/-- what is known gets a name -/
theorem ke_name {X : Cx} {H0 : Hp} {M : Addr → Prop} {e : Expr} {σ : L2.St} {L : LL} {Q : V → LL → Prop} (k : ∀ L0, L = L0 → ke X H0 M e σ L0 Q) : ke X H0 M e σ L Q := k L rfl
theorem spot_app {a : Addr} {o : HO} {L : LL} : ∀ Ts : LL, Spot (Ts ++ (a, o) :: L) a o (fun o' => Ts ++ (a, o') :: L)
  | [] => .here
  | _ :: Ts => .there (spot_app Ts)
theorem at_app {a : Addr} {o : HO} {L : LL} (h : At L a o) : ∀ Ts : LL, At (Ts ++ L) a o
  | [] => h
  | _ :: Ts => .there (at_app h Ts)
end Xi

/-! ## Num2 -/
namespace Xi
/-- arrivals come again -/
theorem arr_period {e t r p d : Int} (hd : e ∣ d) : arr e t r (p + d) = arr e t r p + d := by
  show p + d + (t - (p + d)) % e + r = p + (t - p) % e + r + d
  have : (t - (p + d)) % e = (t - p) % e := Int.emod_eq_emod_iff_emod_sub_eq_zero.mpr (Int.emod_eq_zero_of_dvd (by
    rw [show t - (p + d) - (t - p) = -d by omega]; exact Int.dvd_neg.mpr hd))
  rw [this]; omega
theorem later_range {e t r f u s : Int} (he : 0 < e) (hf : 0 < f) (fit : e ∣ f ∨ f ∣ e) : laterB e t r f u s = true ↔ ∀ p, 0 ≤ p → p < addE e f → arr e t r p ≤ arr f u s p := by
  rw [later_iff he hf fit]
  have hE : 0 < addE e f := by unfold addE; split <;> omega
  have de : e ∣ addE e f ∧ f ∣ addE e f := by
    unfold addE
    split
    · rename_i h
      exact ⟨Int.dvd_refl e, fit_le he hf fit h⟩
    · rename_i h
      refine ⟨?_, Int.dvd_refl f⟩
      rcases fit with q | q
      · exact q
      · have := Int.le_of_dvd he q; omega
  constructor
  · intro h p _ _; exact h p
  · intro h p
    have a := Int.emod_nonneg p (b := addE e f) (by omega)
    have b := Int.emod_lt_of_pos p hE
    have k := h (p % addE e f) a b
    have d := emod_dvd_sub p (addE e f)
    have e1 := arr_period (t := t) (r := r) (p := p % addE e f) (Int.dvd_trans de.1 d)
    have e2 := arr_period (t := u) (r := s) (p := p % addE e f) (Int.dvd_trans de.2 d)
    rw [show p % addE e f + (p - p % addE e f) = p by omega] at e1 e2
    omega
theorem later_spots {e t r f u s : Int} (he : 0 < e) (hf : 0 < f) (fit : e ∣ f ∨ f ∣ e) : laterB e t r f u s = true ↔ arr e t r u ≤ arr f u s u ∧ arr e t r (t + 1) ≤ arr f u s (t + 1) := by
  constructor
  · intro h
    have := (later_iff he hf fit).mp h
    exact ⟨this u, this (t + 1)⟩
  · rintro ⟨h1, h2⟩
    unfold laterB
    rw [decide_eq_true_iff]
    unfold laterL
    split
    · rename_i h
      -- f is the lesser one: the start just behind a departure
      have a : arr e t r (t + 1) = t + e + r := by show dep e t (t + 1) + r = _; rw [dep_next he ⟨0, by omega⟩]
      have b : dep f u (t + 1) = t + 1 + (f - 1 - (t - u) % f) := by
        have m1 := Int.emod_nonneg (t - u) (b := f) (by omega)
        have m2 := Int.emod_lt_of_pos (t - u) hf
        refine dep_uniq ?_ (by omega) (by omega)
        have := Int.dvd_add (emod_dvd_sub (t - u) f) (Int.dvd_refl f)
        rw [show t - u - (t - u) % f + f = t + 1 + (f - 1 - (t - u) % f) - u by omega] at this
        exact this
      have h3 : arr e t r (t + 1) ≤ dep f u (t + 1) + s := h2
      rw [a, b] at h3
      omega
    · rename_i h
      have a : arr f u s u = u + s := by show dep f u u + s = _; rw [dep_self]
      have b : u + (t - u) % e + r ≤ arr f u s u := h1
      rw [a] at b
      omega
/-- with a walk behind: later by it -/
theorem add_walk {e t r v p : Int} (he : 0 < e) : arr (addE e 1) (addT e t r 1 0) (addR e t r 1 0 v) p = arr e t r p + v := by
  rw [add_arr he (by decide) (.inr (Int.one_dvd e))]
  show arr e t r p + (0 - arr e t r p) % 1 + v = _
  rw [Int.emod_one]; omega
theorem fit_walk {e : Int} (he : 0 < e) : addE e 1 = e := by unfold addE; rw [if_pos (by omega)]
theorem later_self {e t r : Int} (he : 0 < e) : laterB e t r e t r = true := (later_iff he he (.inl (Int.dvd_refl e))).mpr fun _ => Int.le_refl _
theorem later_walk {e t r v : Int} (he : 0 < e) (hv : 0 ≤ v) : laterB e t r (addE e 1) (addT e t r 1 0) (addR e t r 1 0 v) = true := by
  have k : 0 < addE e 1 := by rw [fit_walk he]; exact he
  refine (later_iff he k (.inl (by rw [fit_walk he]; exact Int.dvd_refl e))).mpr fun p => ?_
  rw [add_walk he]; omega
theorem walk_later {e t r v : Int} (he : 0 < e) (hv : 0 < v) : laterB (addE e 1) (addT e t r 1 0) (addR e t r 1 0 v) e t r = false := by
  have k : 0 < addE e 1 := by rw [fit_walk he]; exact he
  rw [Bool.eq_false_iff]
  intro h
  have := (later_iff k he (.inl (by rw [fit_walk he]; exact Int.dvd_refl e))).mp h 0
  rw [add_walk he] at this
  omega
end Xi

/-! ## Kw -/
/-! Methods called by keywords; list(range(n)); comprehensions over numbers; is of truth values. -/
namespace Xi
open PySem PySem.Spec PyProof.Rows L2
/-- a method whose arguments are given by name -/
structure MethK (P : Program) (w : World) (K : PySem.W.Frag) (mg : Str → Option Value) (base : Heap) (CX : CXT) (k : Nat) (Cs : Addr → Prop) (m : Str) (ks : List Str) (sp : Sp) : Prop where
  ex : ∃ f fd ps, Fk P w K mg base CX k f fd ps sp ∧ (∀ C, Cs C → Cls K C ∧ Meth K C m f) ∧ (∀ (s : Shared) (u : Value) (ws : List Value), ws.length = ks.length → BindsTo s fd ⟨[u], ks.zip ws⟩ (ps.zip (u :: ws))) ∧ ps.length = ks.length + 1
theorem FunC.okK {P : Program} {w : World} {K : PySem.W.Frag} {mg : Str → Option Value} {base : Heap} {k : Nat} {m qual : Str} {st : Stmt} {sp : Sp} {ps ks : List Str} {Cs : Addr → Prop} (F : FunC K Cs m qual st) (hc : ∀ C, Cs C → Cls K C)
    (b : ∀ f fd, Fun K m qual st f fd → ∀ (s : Shared) (u : Value) (ws : List Value), ws.length = ks.length → BindsTo s fd ⟨[u], ks.zip ws⟩ (ps.zip (u :: ws))) (hl : ps.length = ks.length + 1)
    (h : ∀ f fd, Fun K m qual st f fd → Fk P w K mg base CX0 k f fd ps sp) : MethK P w K mg base CX0 k Cs m ks sp := by
  obtain ⟨f, fd, F, hm⟩ := F.ex
  exact ⟨f, fd, ps, h f fd F, fun C c => ⟨hc C c, hm C c⟩, b f fd F, hl⟩
section
variable {X : Cx} {k : Nat} {Cs : Addr → Prop} {sp : Sp} {m : Str} {pos apos : Pos} {e o : Expr} {kws : List Keyword} {ks : List Str} {H0 : Hp} {M : Addr → Prop} {L : LL} {σ : L2.St} {Q : V → LL → Prop}
theorem ke_methK {pl : Sem Bool} (D : MethK X.prog X.w X.K X.mg X.base CX0 k Cs m ks sp) (hr : Room k X.A) (gd : X.A.guards = some [])
    (hall : (backToKw pos (keywordEach kws X.env)).all (·.1.isSome) = true) (hks : (backToKw pos (keywordEach kws X.env)).filterMap (·.1) = ks) (hpl : ((backTo pos (starEach [] X.env)).any (·.1) || (backToKw pos (keywordEach kws X.env)).any (·.1.isNone)) = false)
    (ht : eval (.Call (.Attribute o m apos) [] kws pos) X.env = (do
      let ov ← eval o X.env
      standAt apos.atName
      let (f, first) ← holding [ov] (getMethod ov m pl)
      callWith pos f first (backTo pos (starEach [] X.env)) (backToKw pos (keywordEach kws X.env))))
    (h : ke X H0 M o σ L fun y L1 => ∃ a C dx fs, y = .ref a ∧ At L1 a (.ins C dx fs) ∧ Cs C ∧ fs.lookup m = none ∧ kk X H0 M kws σ L1 fun vs L2 => rs H0 M sp EE (.ref a :: vs) L2 Q) :
    ke X H0 M (.Call (.Attribute o m apos) [] kws pos) σ L Q := fun H z pins s I => by
  obtain ⟨f, fd, ps, F, hc, hb, hln⟩ := D.ex
  refine PySem.W.methodCall_KW (pl := pl) (thn (h H z pins s I) fun u s1 ⟨y, H1, I1, ry, L1, z1, a, C, dx, fs, ey, ia, cC, nl, q⟩ => ?_) ht
  subst ey
  obtain rfl : u = Value.ref a := ry
  obtain ⟨c1, c2⟩ := hc C cC
  refine getmeth_ok I1 (z1.get ia) c1 c2 nl ?_
  refine PySem.W.callWith_KW0 (first := [.ref a]) (h₀ := X.base) I.ok.mod.kin c2.kp hall (thn (q H1 z1 pos pins s1 I1) fun ws s2 ⟨zs, H2, I2, r, L2, z2, q2⟩ => ⟨I2.kIn, ?_⟩) hpl
  rw [hks]
  have q3 := q2 H2 z2
  have rr : Vals (V.ref a :: zs) (Value.ref a :: ws) := .cons rfl r
  have ll : (Value.ref a :: ws).length = ps.length := rr.length.symm.trans (F.len _ _ _ _ q3)
  have lw : ws.length = ks.length := by
    rw [hln, List.length_cons] at ll
    omega
  refine wpAny_call (codeAny_mono (F.go X.A X.stack s2 H2 ⟨[.ref a], ks.zip ws⟩ (.ref a :: ws) (.ref a :: zs) _ EE hr gd I2.env0 (hb s2 (.ref a) ws lw) rr q3) fun res s3 hq => ?_)
  rcases res with er | fl
  · exact px0 (E := EE) pins σ H2 s2 er s3 I2 hq
  · cases fl with
    | ret u => exact I2.after hq
    | next => exact hq.elim
    | brk => exact hq.elim
    | cont => exact hq.elim
variable {P : Program} {w : World} {K : PySem.W.Frag} {mg : Str → Option Value} {base : Heap} {j : Nat} {N Nv : List Str} {sc : Scope}
theorem Body.methK (bd : Body X P w K mg base k N Nv sc) (D : MethK P w K mg base CX0 j Cs m ks sp) (hj : Nat.ble j k = true)
    (hall : (backToKw pos (keywordEach kws X.env)).all (·.1.isSome) = true) (hks : (backToKw pos (keywordEach kws X.env)).filterMap (·.1) = ks) (hpl : ((backTo pos (starEach [] X.env)).any (·.1) || (backToKw pos (keywordEach kws X.env)).any (·.1.isNone)) = false)
    (ht : ∃ pl : Sem Bool, eval (.Call (.Attribute o m apos) [] kws pos) X.env = (do
      let ov ← eval o X.env
      standAt apos.atName
      let (f, first) ← holding [ov] (getMethod ov m pl)
      callWith pos f first (backTo pos (starEach [] X.env)) (backToKw pos (keywordEach kws X.env))))
    (h : ke X H0 M o σ L fun y L1 => ∃ a C dx fs, y = .ref a ∧ At L1 a (.ins C dx fs) ∧ Cs C ∧ fs.lookup m = none ∧ kk X H0 M kws σ L1 fun vs L2 => rs H0 M sp EE (.ref a :: vs) L2 Q) :
    ke X H0 M (.Call (.Attribute o m apos) [] kws pos) σ L Q := by
  obtain ⟨pl, ht⟩ := ht
  have D' : MethK X.prog X.w X.K X.mg X.base CX0 j Cs m ks sp := by rw [bd.prog, bd.w, bd.K, bd.mg, bd.base]; exact D
  exact ke_methK D' (bd.rm (Nat.le_of_ble_eq_true hj)) bd.gd hall hks hpl ht h
/-- list(range(n)) -/
abbrev rgI (n : Int) : List Int := (List.range n.toNat).map fun (i : Nat) => (i : Int)
theorem rgV_eq (n : Int) : rgV 0 n = (rgI n).map V.int := by
  unfold rgV rgI
  rw [List.map_map, Int.sub_zero]
  refine List.map_congr_left fun i _ => ?_
  show V.int (0 + (i : Int)) = V.int (i : Int)
  rw [Int.zero_add]
theorem ke_listRg {a : Expr} {p p2 pos2 : Pos} (hc : X.calm = true) (hg : Gl X "list") (hm : X.mg "list" = none) (hg2 : Gl X "range") (hm2 : X.mg "range" = none) (na : starEach [a] X.env = (false, eval a X.env) :: starEach [] X.env)
    (na2 : starEach [.Call (.Name "range" p2) [a] [] pos2] X.env = (false, eval (.Call (.Name "range" p2) [a] [] pos2) X.env) :: starEach [] X.env)
    (h : ke X H0 M a σ L fun x L1 => ∃ n : Int, x = .int n ∧ 0 ≤ n ∧ n ≤ 16777216 ∧ New H0 (.lst ((rgI n).map V.int)) L1 Q) : ke X H0 M (.Call (.Name "list" p) [.Call (.Name "range" p2) [a] [] pos2] [] pos) σ L Q := fun H z =>
  we_of (pe_listRg hc hg hm (prg_1 hg2 hm2 pe_we na) na2) (we_mono (h H z) fun x H1 ⟨L1, z1, n, ex, h0, h1, q⟩ => ⟨n, ex, RgOk.of_le (by decide) h1 (by decide) h0, by rw [rgV_eq]; exact new_up z1 q⟩)
theorem ro_notBl {a b : Bool} (h : Q (.bl (!decide (a = b))) L) : ro X H0 M (compareOp .IsNot) (.bl a) (.bl b) L Q := ro_of op_notBl fun _ z => ⟨a, b, rfl, rfl, L, z, h⟩
theorem ro_isBl {a b : Bool} (h : Q (.bl (decide (a = b))) L) : ro X H0 M (compareOp .Is) (.bl a) (.bl b) L Q := ro_of op_isBl fun _ z => ⟨a, b, rfl, rfl, L, z, h⟩
end
theorem kf_to {X : Cx} {H0 : Hp} {M : Addr → Prop} {σ : L2.St} {L : LL} {ifs : List Expr} {Q : Bool → LL → Prop} (h : kf X H0 M ifs σ L Q) : kf X H0 M ifs σ L Q := h
/-- [f(x) for x in xs if p(x)], numbers; nothing else is made -/
theorem Body.klI {X : Cx} {elt tg iter : Expr} {ifs : List Expr} {scope : Scope} {H0 : Hp} {M : Addr → Prop} {L : LL} {σ : L2.St} {Q : V → LL → Prop} {P : Program} {w : World} {K : PySem.W.Frag} {mg : Str → Option Value} {base : Heap} {k : Nat} {N Nv Nw : List Str} {sc : Scope} (bd : Body X P w K mg base k N Nv sc) (ns : Ns X N Nw) (own : List (Str × Nat)) (Nb No : List Str) (p : Int → Bool) (f : Int → Int) (vis : ∀ x ∈ Nb, (relS scope sc).names.lookup x = some .local ∨ (relS scope sc).names.lookup x = some .cell ∨ (relS scope sc).names.lookup x = some .free) (pl : ∀ x ∈ Nb, (x == ("__debug__" : Str)) = false ∧ (x == ("__classdict__" : Str)) = false) (lc : ∀ x ∈ No, (relS scope sc).names.lookup x = some .local) 
    (h : ke X H0 M iter σ L fun v L1 => ∃ (a : Addr) (is : List Int), v = .ref a ∧ At L1 a (.lst (is.map V.int)) ∧ is.length ≤ 1000 ∧
      (∀ x ∈ is, ∀ D acc, H0 D = none → ∀ B, Body B P w K mg base k N Nb (relS scope sc) → Ns B N No → kg B H0 M tg (.int x) (wipe σ (own.map (·.2))) ((D, acc) :: L1) fun σ2 L2 => L2 = (D, acc) :: L1 ∧ wipe σ2 (own.map (·.2)) = wipe σ (own.map (·.2)) ∧
        ∀ B, Body B P w K mg base k N Nb (relS scope sc) → kf B H0 M ifs σ2 L2 fun b L3 => L3 = (D, acc) :: L1 ∧ b = p x ∧ (b = true → ∀ B, Body B P w K mg base k N Nb (relS scope sc) → ke B H0 M elt σ2 L3 fun y L4 => y = .int (f x) ∧ L4 = (D, acc) :: L1)) ∧
      ∀ D, H0 D = none → Q (.ref D) ((D, .lst (((is.filter p).map f).map V.int)) :: L1)) :
    kLc X H0 M elt tg iter ifs scope own σ L Q := by
  refine Body.kl bd ns own Nb No vis pl lc (ki_list fun H z => we_mono (h H z) fun v H1 ⟨L1, z1, a, is, ev, ia, hl, st, en⟩ => ⟨L1, z1, a, _, ev, ia, fun J wk D nD => ?_⟩)
  refine ⟨_, _, _, fun i L => L = (D, .lst ((((is.take i).filter p).map f).map V.int)) :: L1, wk, rfl, fun i L hi e => by rw [e]; exact .there ia, fun i x L L' hi e hx B bB nB => ?_, fun L e => ?_⟩
  · obtain ⟨e2, hx⟩ := hx
    subst e2
    subst e
    rw [List.getElem?_map] at hx
    obtain ⟨y, hy, rfl⟩ := Option.map_eq_some_iff.mp hx
    have hm := List.mem_of_getElem? hy
    have key := st y hm D (.lst ((((is.take i).filter p).map f).map V.int)) nD B bB nB
    refine fun H z pins s u I r => thn (key H z pins s u I r) fun _ s' ⟨σ', H', I', L2, z2, e3, e4, q⟩ => ⟨σ', H', I', L2, z2, e4, fun B2 bB2 => kf_mono (q B2 bB2) fun b L3 ⟨e5, e6, q2⟩ => ?_⟩
    subst e5
    cases b with
    | true =>
      rw [if_pos rfl]
      intro B3 bB3
      refine fun H z => we_mono (q2 rfl B3 bB3 H z) fun y2 H2 w => ?_
      obtain ⟨L4, z4, e7, e8⟩ := w
      subst e8
      subst e7
      refine ⟨_, z4, _, _, .here, ?_, _, .refl _, ?_⟩
      · rw [List.length_map, List.length_map]
        refine Nat.lt_of_le_of_lt (Nat.le_trans (List.length_filter_le _ _) (by rw [List.length_take]; exact Nat.min_le_right _ _)) (Nat.lt_of_le_of_lt hl (by decide))
      · dsimp only
        rw [take_snoc hy, List.filter_append, List.filter_cons, if_pos e6.symm, List.filter_nil, List.map_append, List.map_append]
        rfl
    | false =>
      rw [if_neg (by decide)]
      refine ⟨_, .refl _, ?_⟩
      dsimp only
      rw [take_snoc hy, List.filter_append, List.filter_cons, if_neg (by rw [← e6]; decide), List.filter_nil, List.append_nil]
  · subst e
    have := en D nD
    rw [List.length_map, List.take_length]
    exact this
theorem Body.lcI {X : Cx} {elt tg iter : Expr} {ifs : List Expr} {scope : Scope} {pos : Pos} {H0 : Hp} {M : Addr → Prop} {L : LL} {σ : L2.St} {Q : V → LL → Prop} {P : Program} {w : World} {K : PySem.W.Frag} {mg : Str → Option Value} {base : Heap} {k : Nat} {N Nv Nw : List Str} {sc : Scope} (bd : Body X P w K mg base k N Nv sc) (ns : Ns X N Nw) (own : List (Str × Nat)) (Nb No : List Str) (p : Int → Bool) (f : Int → Int) (ok : BlkOk N sc scope own) (vis : ∀ x ∈ Nb, (relS scope sc).names.lookup x = some .local ∨ (relS scope sc).names.lookup x = some .cell ∨ (relS scope sc).names.lookup x = some .free) (pl : ∀ x ∈ Nb, (x == ("__debug__" : Str)) = false ∧ (x == ("__classdict__" : Str)) = false) (lc : ∀ x ∈ No, (relS scope sc).names.lookup x = some .local) (hs : ∀ x, foldedSetIterable iter X.env x = pure x)
    (h : ke X H0 M iter σ L fun v L1 => ∃ (a : Addr) (is : List Int), v = .ref a ∧ At L1 a (.lst (is.map V.int)) ∧ is.length ≤ 1000 ∧
      (∀ x ∈ is, ∀ D acc, H0 D = none → ∀ B, Body B P w K mg base k N Nb (relS scope sc) → Ns B N No → kg B H0 M tg (.int x) (wipe σ (own.map (·.2))) ((D, acc) :: L1) fun σ2 L2 => L2 = (D, acc) :: L1 ∧ wipe σ2 (own.map (·.2)) = wipe σ (own.map (·.2)) ∧
        ∀ B, Body B P w K mg base k N Nb (relS scope sc) → kf B H0 M ifs σ2 L2 fun b L3 => L3 = (D, acc) :: L1 ∧ b = p x ∧ (b = true → ∀ B, Body B P w K mg base k N Nb (relS scope sc) → ke B H0 M elt σ2 L3 fun y L4 => y = .int (f x) ∧ L4 = (D, acc) :: L1)) ∧
      ∀ D, H0 D = none → Q (.ref D) ((D, .lst (((is.filter p).map f).map V.int)) :: L1)) :
    ke X H0 M (.ListComp elt [⟨tg, iter, ifs, 0⟩] scope pos) σ L Q :=
  ke_kl bd.calm (by rw [ns.eq]; exact ns.nd) (by rw [ns.eq, bd.scope]; exact ok) hs (Body.klI bd ns own Nb No p f vis pl lc h)
theorem dp_ints {K : PySem.W.Frag} {H : Hp} : ∀ is : List Int, DpAll K H (is.map V.int) (is.map PyData.int)
  | [] => .nil
  | i :: r => .cons (.int i) (dp_ints r)
theorem lay_ints : ∀ is : List Int, PyData.canLayAll0 (is.map PyData.int) = true ∧ PyData.depthAll (is.map PyData.int) ≤ 1
  | [] => ⟨by simp [PyData.canLayAll0], by simp [PyData.depthAll]⟩
  | i :: r => ⟨by have := (lay_ints r).1; simp only [List.map_cons, PyData.canLayAll0, PyData.canLay0, this, Bool.and_self], by have := (lay_ints r).2; simp only [List.map_cons, PyData.depthAll, PyData.depth]; omega⟩
theorem shL_ints (is : List Int) : SeqAt.shaped (.list (is.map PyData.int)) = true := Bool.and_eq_true_iff.mpr ⟨by simpa [PyData.canLay0] using (lay_ints is).1, decide_eq_true (by have := (lay_ints is).2; simp only [PyData.depth]; omega)⟩
theorem eqv_nil (is : List Int) : PyData.eqv (.list (is.map PyData.int)) (.list []) = is.isEmpty := by
  cases is with
  | nil => simp [PyData.eqv, PyData.eqvAll]
  | cons i r => simp [PyData.eqv, PyData.eqvAll]
theorem ro_eqNil {X : Cx} {H0 : Hp} {M : Addr → Prop} {L : LL} {Q : V → LL → Prop} {k : Nat} {p q : Addr} {is : List Int} (hr : Room k X.A) (ia : At L p (.lst (is.map V.int))) (ib : At L q (.lst [])) (h : Q (.bl is.isEmpty) L) : ro X H0 M (compareOp .Eq) (.ref p) (.ref q) L Q :=
  ro_of (op_eqD (by have := hr.un; omega)) fun H z => ⟨_, _, .lst (z.sq ia) (dp_ints is), .lst (xs := []) (ds := []) (z.sq ib) .nil, shL_ints is, (by decide +kernel : SeqAt.shaped (.list []) = true), L, z, by rw [eqv_nil]; exact h⟩
end Xi

/-! ## En -/
/-! Instances called by keywords; lists put together; comprehensions over enumerate. -/
namespace Xi
open PySem PySem.Spec PyProof.Rows L2
/-- instances called with arguments by name -/
structure CallK (P : Program) (w : World) (K : PySem.W.Frag) (mg : Str → Option Value) (base : Heap) (CX : CXT) (k : Nat) (Cs : Addr → Prop) (ks : List Str) (sp : Sp) : Prop where
  ex : ∃ f fd ps, Fk P w K mg base CX k f fd ps sp ∧ (∀ C, Cs C → StX.CallO K C f) ∧ (∀ (s : Shared) (u : Value) (ws : List Value), ws.length = ks.length → BindsTo s fd ⟨[u], ks.zip ws⟩ (ps.zip (u :: ws))) ∧ ps.length = ks.length + 1
theorem FunO.okK {P : Program} {w : World} {K : PySem.W.Frag} {mg : Str → Option Value} {base : Heap} {k : Nat} {qual : Str} {st : Stmt} {sp : Sp} {ps ks : List Str} {Cs : Addr → Prop} (F : FunO K Cs qual st)
    (b : ∀ f fd, Fun K "__call__" qual st f fd → ∀ (s : Shared) (u : Value) (ws : List Value), ws.length = ks.length → BindsTo s fd ⟨[u], ks.zip ws⟩ (ps.zip (u :: ws))) (hl : ps.length = ks.length + 1)
    (h : ∀ f fd, Fun K "__call__" qual st f fd → Fk P w K mg base CX0 k f fd ps sp) : CallK P w K mg base CX0 k Cs ks sp := by
  obtain ⟨f, fd, F, hm⟩ := F.ex
  exact ⟨f, fd, ps, h f fd F, hm, b f fd F, hl⟩
theorem own_with {M : Model} {A : Around} {E : Value → Shared → Prop} {s : Shared} {a : Addr} {pos : Pos} {Q : Value → Shared → Prop} {args : List (Bool × Sem Value)} {kw : List (Option Str × Sem Value)} (hp : (args.any (·.1) || kw.any (·.1.isNone)) = false)
    (h : wpAny M A (evalArgs (.ref a) true args kw) (fun z s1 => (∃ C ox od, PySem.W.InstAt s1.heap a ox C od ∧ ox.data = .plain) ∧ wpAny M A (call (.ref a) ([] ++ z.pos) z.kw) Q E s1) E s) : wpAny M A (callWith pos (.ref a) [] args kw) Q E s := by
  unfold callWith
  refine wpAny_bind (wpAny_holding (wpAny_mono h ?_ fun _ _ y => y))
  rintro z s1 ⟨⟨C, ox, od, J, hd⟩, h1⟩
  refine wpAny_bind (wpAny_standAt ?_)
  have keeper := PySem.W.kco_keeper (M := M) J hd
  simp only [hp]
  refine wpAny_bind (keeper.here ?_)
  have over : ∀ {t : Sem Value}, wpAny M A t Q E s1 → wpAny M A (t >>= fun r => holding [r] point >>= fun _ => pure r) Q E s1 := fun ht => by
    refine wpAny_bind (wpAny_mono ht (fun r s2 hr => ?_) fun _ _ y => y)
    exact wpAny_bind (wpAny_holding (wpAny_point (wpAny_pure hr)))
  exact over (wpAny_operateT h1)
section
variable {X : Cx} {k j : Nat} {Cs : Addr → Prop} {sp : Sp} {pos : Pos} {fe : Expr} {kws : List Keyword} {ks : List Str} {H0 : Hp} {M : Addr → Prop} {L : LL} {σ : L2.St} {Q : V → LL → Prop}
variable {P : Program} {w : World} {K : PySem.W.Frag} {mg : Str → Option Value} {base : Heap} {N Nv : List Str} {sc : Scope}
theorem Body.callK (bd : Body X P w K mg base k N Nv sc) (D : CallK P w K mg base CX0 j Cs ks sp) (hj : Nat.ble j k = true)
    (hall : (backToKw pos (keywordEach kws X.env)).all (·.1.isSome) = true) (hks : (backToKw pos (keywordEach kws X.env)).filterMap (·.1) = ks) (hpl : ((backTo pos (starEach [] X.env)).any (·.1) || (backToKw pos (keywordEach kws X.env)).any (·.1.isNone)) = false)
    (ht : eval (.Call fe [] kws pos) X.env = (do callWith pos (← eval fe X.env) [] (backTo pos (starEach [] X.env)) (backToKw pos (keywordEach kws X.env))))
    (h : ke X H0 M fe σ L fun y L1 => ∃ a, y = .ref a ∧ kk X H0 M kws σ L1 fun vs L2 => (∃ C dx fs, At L2 a (.ins C dx fs) ∧ Cs C) ∧ rs H0 M sp EE (.ref a :: vs) L2 Q) :
    ke X H0 M (.Call fe [] kws pos) σ L Q := fun H z pins s I => by
  obtain ⟨f, fd, ps, F, hc, hb, hln⟩ := D.ex
  rw [← bd.prog, ← bd.w, ← bd.K, ← bd.mg, ← bd.base] at F
  rw [← bd.K] at hc
  have hr := bd.rm (Nat.le_of_ble_eq_true hj)
  rw [ht]
  refine wpAny_bind (thn (h H z pins s I) fun u s1 ⟨y, H1, I1, ry, L1, z1, a, ey, q⟩ => ?_)
  subst ey
  obtain rfl : u = Value.ref a := ry
  refine own_with hpl (evalArgs_kw2_nil hall (thn (q H1 z1 pos pins s1 I1) fun ws s2 ⟨zs, H2, I2, r, L2, z2, ⟨C, dx, fs, ia, cC⟩, q2⟩ => ?_))
  rw [hks]
  obtain ⟨ox, od, J, hd⟩ := StX.insC_at I2 (.inr ⟨dx, fs, z2.get ia⟩)
  have c := hc C cC
  have q3 := q2 H2 z2
  have rr : Vals (V.ref a :: zs) (Value.ref a :: ws) := .cons rfl r
  have ll : (Value.ref a :: ws).length = ps.length := rr.length.symm.trans (F.len _ _ _ _ q3)
  have lw : ws.length = ks.length := by
    rw [hln, List.length_cons] at ll
    omega
  refine ⟨⟨C, ox, od, J, hd⟩, wpAny_call (PySem.W.kco_code I2.kIn J hd c.at_ c.fn c.fi (codeAny_mono (F.go X.A X.stack s2 H2 ⟨[.ref a], ks.zip ws⟩ (.ref a :: ws) (.ref a :: zs) _ EE hr bd.gd I2.env0 (hb s2 (.ref a) ws lw) rr q3) fun res s3 hq => ?_))⟩
  rcases res with er | fl
  · exact px0 (E := EE) pins σ H2 s2 er s3 I2 hq
  · cases fl with
    | ret u => exact I2.after hq
    | next => exact hq.elim
    | brk => exact hq.elim
    | cont => exact hq.elim
/-- xs + ys, lists: a new one -/
theorem ro_cat {p q : Addr} {xs ys : List V} (ia : At L p (.lst xs)) (ib : At L q (.lst ys)) (hl : xs.length + ys.length ≤ sizeLine) (h : New H0 (.lst (xs ++ ys)) L Q) : ro X H0 M (binaryOp .Add) (.ref p) (.ref q) L Q :=
  ro_of op_cat fun H z => ⟨p, q, xs, ys, rfl, rfl, z.get ia, z.get ib, hl, new_up z h⟩
theorem ro_neNil {p q : Addr} {is : List Int} (hr : Room k X.A) (ia : At L p (.lst (is.map V.int))) (ib : At L q (.lst [])) (h : Q (.bl (!is.isEmpty)) L) : ro X H0 M (compareOp .NotEq) (.ref p) (.ref q) L Q :=
  ro_of (op_neD (by have := hr.un; omega)) fun H z => ⟨_, _, .lst (z.sq ia) (dp_ints is), .lst (xs := []) (ds := []) (z.sq ib) .nil, shL_ints is, (by decide +kernel : SeqAt.shaped (.list []) = true), L, z, by rw [eqv_nil]; exact h⟩
end
/-- the numbers of [f(i, x) for i, x in enumerate(xs) if p(i, x)] -/
abbrev enumF (p : Nat → Int → Bool) (f : Nat → Int → Int) (is : List Int) : List Int := (is.zipIdx.filter fun q => p q.2 q.1).map fun q => f q.2 q.1
theorem Body.klE {X : Cx} {elt e : Expr} {elts : List Expr} {kk' : Nat} {tpos pp pe : Pos} {ifs : List Expr} {scope : Scope} {H0 : Hp} {M : Addr → Prop} {L : LL} {σ : L2.St} {Q : V → LL → Prop} {P : Program} {w : World} {K : PySem.W.Frag} {mg : Str → Option Value} {base : Heap} {k : Nat} {N Nv Nw : List Str} {sc : Scope} (bd : Body X P w K mg base k N Nv sc) (ns : Ns X N Nw) (own : List (Str × Nat)) (Nb No : List Str) (p : Nat → Int → Bool) (f : Nat → Int → Int) (vis : ∀ x ∈ Nb, (relS scope sc).names.lookup x = some .local ∨ (relS scope sc).names.lookup x = some .cell ∨ (relS scope sc).names.lookup x = some .free) (pl : ∀ x ∈ Nb, (x == ("__debug__" : Str)) = false ∧ (x == ("__classdict__" : Str)) = false) (lc : ∀ x ∈ No, (relS scope sc).names.lookup x = some .local)
    (hg : Gl X "enumerate") (hm : X.mg "enumerate" = none) (hse : starEach [e] X.env = [(false, eval e X.env)]) 
    (h : ke X H0 M e σ L fun v L1 => ∃ (a : Addr) (is : List Int), v = .ref a ∧ At L1 a (.lst (is.map V.int)) ∧ is.length ≤ 1000 ∧
      (∀ (i : Nat) (x : Int), is[i]? = some x → ∀ D acc T, H0 D = none → H0 T = none → ∀ B, Body B P w K mg base k N Nb (relS scope sc) → Ns B N No → kg B H0 M (.Tuple elts kk' tpos) (.ref T) (wipe σ (own.map (·.2))) ((T, .tup [.int i, .int x]) :: (D, acc) :: L1) fun σ2 L2 => L2 = (T, .tup [.int i, .int x]) :: (D, acc) :: L1 ∧ wipe σ2 (own.map (·.2)) = wipe σ (own.map (·.2)) ∧
        ∀ B, Body B P w K mg base k N Nb (relS scope sc) → kf B H0 M ifs σ2 L2 fun b L3 => L3 = (T, .tup [.int i, .int x]) :: (D, acc) :: L1 ∧ b = p i x ∧ (b = true → ∀ B, Body B P w K mg base k N Nb (relS scope sc) → ke B H0 M elt σ2 L3 fun y L4 => y = .int (f i x) ∧ L4 = (T, .tup [.int i, .int x]) :: (D, acc) :: L1)) ∧
      ∀ D, H0 D = none → Q (.ref D) ((D, .lst ((enumF p f is).map V.int)) :: L1)) :
    kLc X H0 M elt (.Tuple elts kk' tpos) (.Call (.Name "enumerate" pp) [e] [] pe) ifs scope own σ L Q := by
  refine Body.kl bd ns own Nb No vis pl lc (ki_enum hg hm hse fun H z => we_mono (h H z) fun v H1 ⟨L1, z1, a, is, ev, ia, hl, st, en⟩ => ⟨L1, z1, a, _, ev, ia, fun J wk D nD => ?_⟩)
  refine ⟨_, _, _, fun i L => L = (D, .lst ((enumF p f (is.take i)).map V.int)) :: L1, wk, rfl, fun i L hi e => by rw [e]; exact .there ia, fun i x L L' hi e hx B bB nB => ?_, fun L e => ?_⟩
  · obtain ⟨T, y, ex, nT, hy, e2⟩ := hx
    subst ex e2 e
    rw [List.getElem?_map] at hy
    obtain ⟨y, hy', rfl⟩ := Option.map_eq_some_iff.mp hy
    clear hy
    have hy := hy'
    have il : i < is.length := by rw [List.length_map] at hi; exact hi
    have tl : (is.take i).length = i := by rw [List.length_take]; omega
    have key := st i y hy D (.lst ((enumF p f (is.take i)).map V.int)) T nD nT B bB nB
    have snoc : (is.take (i + 1)).zipIdx = (is.take i).zipIdx ++ [(y, i)] := by
      rw [take_snoc hy, List.zipIdx_append, tl, Nat.zero_add]; rfl
    refine fun H z pins s u I r => thn (key H z pins s u I r) fun _ s' ⟨σ', H', I', L2, z2, e3, e4, q⟩ => ⟨σ', H', I', L2, z2, e4, fun B2 bB2 => kf_mono (q B2 bB2) fun b L3 ⟨e5, e6, q2⟩ => ?_⟩
    subst e5
    cases b with
    | true =>
      rw [if_pos rfl]
      intro B3 bB3
      refine fun H z => we_mono (q2 rfl B3 bB3 H z) fun y2 H2 w => ?_
      obtain ⟨L4, z4, e7, e8⟩ := w
      subst e8 e7
      refine ⟨_, z4, _, _, .there .here, ?_, _, .cons _ (.refl _), ?_⟩
      · rw [List.length_map, List.length_map]
        refine Nat.lt_of_le_of_lt (Nat.le_trans (List.length_filter_le _ _) (by rw [List.length_zipIdx, List.length_take]; exact Nat.min_le_right _ _)) (Nat.lt_of_le_of_lt hl (by decide))
      · dsimp only [enumF]
        rw [snoc, List.filter_append, List.filter_cons, if_pos e6.symm, List.filter_nil, List.map_append, List.map_append]
        rfl
    | false =>
      rw [if_neg (by decide)]
      refine ⟨_, .cons _ (.refl _), ?_⟩
      dsimp only [enumF]
      rw [snoc, List.filter_append, List.filter_cons, if_neg (by rw [← e6]; decide), List.filter_nil, List.append_nil]
  · subst e
    have := en D nD
    rw [List.length_map, List.take_length]
    exact this
theorem Body.lcE {X : Cx} {elt e : Expr} {elts : List Expr} {kk' : Nat} {tpos pp pe : Pos} {ifs : List Expr} {scope : Scope} {pos : Pos} {H0 : Hp} {M : Addr → Prop} {L : LL} {σ : L2.St} {Q : V → LL → Prop} {P : Program} {w : World} {K : PySem.W.Frag} {mg : Str → Option Value} {base : Heap} {k : Nat} {N Nv Nw : List Str} {sc : Scope} (bd : Body X P w K mg base k N Nv sc) (ns : Ns X N Nw) (own : List (Str × Nat)) (Nb No : List Str) (p : Nat → Int → Bool) (f : Nat → Int → Int) (ok : BlkOk N sc scope own) (vis : ∀ x ∈ Nb, (relS scope sc).names.lookup x = some .local ∨ (relS scope sc).names.lookup x = some .cell ∨ (relS scope sc).names.lookup x = some .free) (pl : ∀ x ∈ Nb, (x == ("__debug__" : Str)) = false ∧ (x == ("__classdict__" : Str)) = false) (lc : ∀ x ∈ No, (relS scope sc).names.lookup x = some .local)
    (hg : Gl X "enumerate") (hm : X.mg "enumerate" = none) (hse : starEach [e] X.env = [(false, eval e X.env)]) (hs : ∀ x, foldedSetIterable (.Call (.Name "enumerate" pp) [e] [] pe) X.env x = pure x)
    (h : ke X H0 M e σ L fun v L1 => ∃ (a : Addr) (is : List Int), v = .ref a ∧ At L1 a (.lst (is.map V.int)) ∧ is.length ≤ 1000 ∧
      (∀ (i : Nat) (x : Int), is[i]? = some x → ∀ D acc T, H0 D = none → H0 T = none → ∀ B, Body B P w K mg base k N Nb (relS scope sc) → Ns B N No → kg B H0 M (.Tuple elts kk' tpos) (.ref T) (wipe σ (own.map (·.2))) ((T, .tup [.int i, .int x]) :: (D, acc) :: L1) fun σ2 L2 => L2 = (T, .tup [.int i, .int x]) :: (D, acc) :: L1 ∧ wipe σ2 (own.map (·.2)) = wipe σ (own.map (·.2)) ∧
        ∀ B, Body B P w K mg base k N Nb (relS scope sc) → kf B H0 M ifs σ2 L2 fun b L3 => L3 = (T, .tup [.int i, .int x]) :: (D, acc) :: L1 ∧ b = p i x ∧ (b = true → ∀ B, Body B P w K mg base k N Nb (relS scope sc) → ke B H0 M elt σ2 L3 fun y L4 => y = .int (f i x) ∧ L4 = (T, .tup [.int i, .int x]) :: (D, acc) :: L1)) ∧
      ∀ D, H0 D = none → Q (.ref D) ((D, .lst ((enumF p f is).map V.int)) :: L1)) :
    ke X H0 M (.ListComp elt [⟨.Tuple elts kk' tpos, .Call (.Name "enumerate" pp) [e] [] pe, ifs, 0⟩] scope pos) σ L Q :=
  ke_kl bd.calm (by rw [ns.eq]; exact ns.nd) (by rw [ns.eq, bd.scope]; exact ok) hs (Body.klE bd ns own Nb No p f vis pl lc hg hm hse h)
end Xi

/-! ## Num3 -/
/-! Starts in a row that are picked. -/
namespace Xi
theorem zipIdx_range {α : Type} (g : Nat → α) : ∀ n : Nat, ((List.range n).map g).zipIdx = (List.range n).map fun i => (g i, i)
  | 0 => rfl
  | n + 1 => by
    rw [List.range_succ, List.map_append, List.map_append, List.zipIdx_append, zipIdx_range g n, List.length_map, List.length_range, Nat.zero_add]; rfl
theorem filter_run (a b : Nat) : ∀ n : Nat, (List.range n).filter (fun i => decide (a ≤ i ∧ i < b)) = List.range' a (min b n - a)
  | 0 => by simp
  | n + 1 => by
    rw [List.range_succ, List.filter_append, filter_run a b n]
    by_cases h : a ≤ n ∧ n < b
    · rw [List.filter_cons, if_pos (decide_eq_true h), List.filter_nil, show min b (n + 1) - a = (min b n - a) + 1 by omega, List.range'_concat, show a + 1 * (min b n - a) = n by omega]
    · rw [List.filter_cons, if_neg (by simpa using h), List.filter_nil, List.append_nil]
      congr 1
      omega
theorem enum_run {p : Nat → Int → Bool} {f : Nat → Int → Int} {g : Nat → Int} {n a b : Nat} {low : Int} (hb : b ≤ n) (hp : ∀ i, i < n → p i (g i) = decide (a ≤ i ∧ i < b)) (hf : ∀ i x, f i x = low + i) :
    (((((List.range n).map g).zipIdx).filter fun q => p q.2 q.1).map fun q => f q.2 q.1) = (List.range' a (b - a)).map fun (i : Nat) => low + (i : Int) := by
  rw [zipIdx_range, List.filter_map, List.map_map]
  have e : (List.range n).filter ((fun q : Int × Nat => p q.2 q.1) ∘ fun i => (g i, i)) = (List.range n).filter fun i => decide (a ≤ i ∧ i < b) := by
    refine List.filter_congr fun i hi => ?_
    exact hp i (List.mem_range.mp hi)
  rw [e, filter_run, show min b n = b by omega]
  refine List.map_congr_left fun i _ => ?_
  exact hf i (g i)
theorem run_last {low : Int} {a m : Nat} : (List.range' a (m + 1)).map (fun (i : Nat) => low + (i : Int)) = (List.range' a m).map (fun (i : Nat) => low + (i : Int)) ++ [low + ((a + m : Nat) : Int)] := by
  rw [List.range'_concat, List.map_append, Nat.one_mul]; rfl
theorem run_first {low : Int} {a m : Nat} : (List.range' a (m + 1)).map (fun (i : Nat) => low + (i : Int)) = (low + (a : Int)) :: (List.range' (a + 1) m).map (fun (i : Nat) => low + (i : Int)) := by
  rw [List.range'_succ]; rfl
/-- the starts with an arrival -/
theorem arr_eq {e t r p q : Int} (he : 0 < e) : arr e t r p = q ↔ lat e t r q + r = q ∧ lat e t r q - e < p ∧ p ≤ lat e t r q := by
  have a1 := dep_ge (t := t) (p := p) he
  have a2 := dep_lt (t := t) (p := p) he
  have a3 := dep_on e t p
  constructor
  · intro h
    have h1 : dep e t p + r = q := h
    have : lat e t r q = dep e t p := lat_uniq a3 (by omega) (by omega)
    rw [this]
    omega
  · rintro ⟨h1, h2, h3⟩
    have b3 := lat_on e t r q
    have : dep e t p = lat e t r q := dep_uniq b3 (by omega) (by omega)
    show dep e t p + r = q
    rw [this]; exact h1
end Xi

/-! ## Rt -/
/-! Defs with a star; calls with a star; class methods; the length of an instance. -/
namespace Xi
open PySem PySem.Spec PyProof.Rows L2 StX
/-- a def that is called by position alone -/
structure FkR (P : Program) (w : World) (K : PySem.W.Frag) (mg : Str → Option Value) (base : Heap) (CX : CXT) (k : Nat) (f : Addr) (sp : Sp) : Prop where
  go : ∀ (A : Around) (out : List Env) (s : Shared) (H : Hp) (us : List Value) (vs : List V) (Q : VK) (E : XK), Room k A → A.guards = some [] → Env0 P w K mg base A out s H → Vals vs us → sp vs H Q E →
    codeAny (model P w) A (.call (.ref f) ⟨us, []⟩) (CR CX out P w H s Q E) s
/-- vs: n values, then any number, told as a new tuple -/
def spStar (n : Nat) (sp : Sp) : Sp := fun vs H Q E => ∃ ws rest, vs = ws ++ rest ∧ ws.length = n ∧ rest.length ≤ sizeLine ∧ ∀ p, H p = none → sp (ws ++ [V.ref p]) (upd H p (.tup rest)) Q E
section
variable {P : Program} {w : World} {K : PySem.W.Frag} {mg : Str → Option Value} {base : Heap} {k : Nat} {f : Addr} {fd : FuncData} {x qual : Str} {st : Stmt} {ss : List Stmt} {N Nv ps : List Str} {pv : Str} {sp : Sp}
/-- def f(a, .., *v) by its body -/
theorem fk_star (F : Fun K x qual st f fd) (S : FnScope N (ps ++ [pv]) (defScope st))
    (l : ∀ x ∈ Nv, (defScope st).names.lookup x = some .local ∨ (defScope st).names.lookup x = some .cell) (p : ∀ x ∈ Nv, (x == ("__debug__" : Str)) = false ∧ (x == ("__classdict__" : Str)) = false) (eb : defBody st = ss)
    (hb : ∀ us rest : List Value, us.length = ps.length → bindArgs fd ⟨us ++ rest, []⟩ = (newTuple rest >>= fun t => pure (ps.zip us ++ [(pv, t)])))
    (hbody : ∀ (X : Cx), Body X P w K mg base k N Nv (defScope st) → Ns X N Nv → ∀ (H : Hp) (vs : List V) (Q : VK) (E : XK), sp vs H Q E → wb X ss { nx := fun _ H' => Q .non H', rt := Q } (start N vs) H) : FkR P w K mg base CX0 (k + 1) f (spStar ps.length sp) := by
  obtain ⟨oc, od, kV, doc, pm, an, cdv, ct, osl, efd, lk, hcode⟩ := F.ex
  subst efd
  refine ⟨fun A out s H us vs Q E hr gd e0 r hsp => ?_⟩
  obtain ⟨ws, rest, ev, hl, hz, hq⟩ := hsp
  subst ev
  obtain ⟨u1, u2, eu, r1, r2⟩ := vals_split r
  subst eu
  have hn : H s.heap.objs.size = Option.none := e0.hok.fresh (Nat.le_refl _)
  have hl1 : u1.length = ps.length := by rw [← r1.length]; exact hl
  have hl2 : u2.length ≤ sizeLine := by rw [← r2.length]; exact hz
  refine run_bnd (N := N) (ps := ps ++ [pv]) lk hcode S hr e0 (G := fun xs H2 => ∃ p, H p = Option.none ∧ xs = ws ++ [V.ref p] ∧ H2 = upd H p (.tup rest)) (fun A' Ex Q' h => ?_) fun s2 H2 xs ⟨p, hp, ex, eH⟩ hr' => ?_
  · rw [hb u1 u2 hl1]
    refine wpAny_bind (wpAny_newTuple (wpAny_pure ?_) hl2)
    have new : ObjOk P w (upd H s.heap.objs.size (.tup rest)) (s.heap.push ({ cls := .type "tuple", data := .seq u2.toArray } : Obj)) s.heap.objs.size (.tup rest) := ⟨hz, u2, r2, ⟨_, Heap.get?_push_size _ rfl, rfl, _, rfl⟩⟩
    have un := un_laid (fs := frs out) (s := s) (o := ({ cls := .type "tuple", data := .seq u2.toArray } : Obj)) (u := .tup rest) hn
    have z := h _ _ (ws ++ [V.ref s.heap.objs.size]) (u1 ++ [Value.ref s.heap.objs.size]) (env0_laid e0 new) un rfl (fun e s' z => z.elim) (r1.append (.cons rfl .nil))
      (by rw [List.length_append, List.length_append, hl] <;> rfl) ⟨_, hn, rfl, rfl⟩
    rw [List.zip_append hl1.symm] at z
    exact z
  · subst ex eH
    have bd : Body (cxOf CX0 P w K mg base N qual (defScope st) f cdv A out s2 (upd H p (.tup rest)) E).nox P w K mg base k N Nv (defScope st) := ⟨rfl, rfl, rfl, rfl, rfl, hr', gd, ⟨rfl, fun x m => (l x m).elim .inl fun z => .inr (.inl z), ‹_›⟩, rfl, rfl, PassesOwn.never⟩
    exact ⟨_, PSs.nox pb_wb, by rw [eb]; exact hbody _ bd ⟨rfl, S.nd, fun x m => ⟨l x m, .inl rfl⟩⟩ _ _ Q E (hq p hp)⟩
theorem FkR.up {CX : CXT} {j : Nat} (F : FkR P w K mg base CX j f sp) (h : j ≤ k) : FkR P w K mg base CX k f sp := ⟨fun A out s H us vs Q E r => F.go A out s H us vs Q E (r.mono h)⟩
end
/-- a class whose __init__ is called by position -/
structure MakeR (P : Program) (w : World) (K : PySem.W.Frag) (mg : Str → Option Value) (base : Heap) (k : Nat) (C : Addr) (sp : Sp) : Prop where
  ex : ∃ f, FkR P w K mg base CX0 k f sp ∧ Mk K C f
/-- a class method of the class C -/
structure CMethT (P : Program) (w : World) (K : PySem.W.Frag) (mg : Str → Option Value) (base : Heap) (k : Nat) (C : Addr) (m : Str) (sp : Sp) : Prop where
  ex : ∃ f fd ps p mc, Fk P w K mg base CX0 k f fd ps sp ∧ ClX.CRead K C mc ∧ ClX.CMet K C mc m p f ∧ Binds K fd ps []
/-- a family with a length of their own -/
structure LenT (P : Program) (w : World) (K : PySem.W.Frag) (mg : Str → Option Value) (base : Heap) (k : Nat) (Cs : Addr → Prop) (sp : Sp) : Prop where
  ex : ∃ f fd ps, Fk P w K mg base CX0 k f fd ps sp ∧ (∀ C, Cs C → PySem.W.findIn K (.ref C) "__len__" = some (some (.ref f)) ∧ PySem.W.isFn K (.ref f) = true) ∧ Binds K fd ps []
section
variable {X : Cx} {P : Program} {w : World} {K : PySem.W.Frag} {mg : Str → Option Value} {base : Heap} {k j : Nat} {N Nv : List Str} {sc : Scope} {sp : Sp} {x m : Str} {C : Addr} {Cs : Addr → Prop}
variable {p pos apos sp_ : Pos} {e o fe : Expr} {es : List Expr} {H0 : Hp} {M : Addr → Prop} {L : LL} {σ : L2.St} {Q : V → LL → Prop}
theorem make_run {pins : List (Addr × Obj)} {H1 : Hp} {L1 : LL} {us : List Value} {vs : List V} {s1 : Shared} {f : Addr} (bd : Body X P w K mg base k N Nv sc) (F : FkR P w K mg base CX0 j f sp) (mk : Mk K C f) (hj : Nat.ble (j + 1) k = true) (I1 : Inv X pins σ H1 s1) (r : Vals vs us) (z1 : Hs H0 M L1 H1)
    (q : ∀ y dy, H0 y = none → H0 dy = none → rs H0 M sp EE (.ref y :: vs) ((y, .ins C dy []) :: (dy, .own y) :: L1) fun v L2 => v = .non ∧ Q (.ref y) L2) : wpAny (model X.prog X.w) X.A (call (.ref C) us) (EP X pins σ (up H0 M Q)) X.xe s1 := by
  have hr : Room (j + 1) X.A := bd.rm (Nat.le_of_ble_eq_true hj)
  rw [← bd.prog, ← bd.w, ← bd.K, ← bd.mg, ← bd.base] at F
  rw [← bd.K] at mk
  have n1 : H1 (s1.heap.objs.size + 1) = none := I1.hok.fresh (Nat.le_succ _)
  have n0 : H1 s1.heap.objs.size = none := I1.hok.fresh (Nat.le_refl _)
  have z2 := (z1.new (o := .own (s1.heap.objs.size + 1)) n0).new (o := .ins C s1.heap.objs.size []) (p := s1.heap.objs.size + 1) (by rw [upd_ne (Nat.succ_ne_self _)]; exact n1)
  have q2 := q (s1.heap.objs.size + 1) s1.heap.objs.size (z1.fresh n1) (z1.fresh n0) _ z2
  have I2 := Inv.made (C := C) I1
  have rr : Vals (V.ref (s1.heap.objs.size + 1) :: vs) (Value.ref (s1.heap.objs.size + 1) :: us) := .cons rfl r
  have gd2 : (X.A.under (.builtin "type.__call__" ⟨.ref C :: us, []⟩)).guards = some [] := by
    show pushGuards (Code.builtin "type.__call__" ⟨.ref C :: us, []⟩).guards X.A.guards = some []
    rw [bd.gd]
    simp [Code.guards, Code.isGuard, guardIds, pushGuards]
  refine wpAny_call (make_map (f := f) I1.kIn mk.makes mk.init (beq_iff_eq.mp mk.fn) (codeAny_mono (F.go _ X.stack _ _ _ _ _ EE (hr.make C us []) gd2 (I2.env0.make C us []) rr q2) fun res s2 hq => ?_))
  rcases res with er | fl
  · exact px0 (E := EE) pins σ _ _ er s2 I2 hq
  · cases fl with
    | ret u =>
      obtain ⟨v, H', I3, rv, L3, z3, ev, q3⟩ := I2.after hq
      subst ev
      exact ⟨rv, ⟨V.ref (s1.heap.objs.size + 1), H', I3, rfl, L3, z3, q3⟩⟩
    | next => exact hq.elim
    | brk => exact hq.elim
    | cont => exact hq.elim
/-- C(*e), C a class that a name tells -/
theorem Body.makeS (bd : Body X P w K mg base k N Nv sc) (D : MakeR P w K mg base j C sp) (hj : Nat.ble (j + 1) k = true) (hst : starEach [.Starred e sp_] X.env = [(true, eval e X.env)])
    (h : ke X H0 M (.Name x p) σ L fun v L1 => v = .ref C ∧ ke X H0 M e σ L1 fun y L2 => ∃ a xs, y = .ref a ∧ (At L2 a (.tup xs) ∨ At L2 a (.lst xs)) ∧
      ∀ y dy, H0 y = none → H0 dy = none → rs H0 M sp EE (.ref y :: xs) ((y, .ins C dy []) :: (dy, .own y) :: L2) fun v L3 => v = .non ∧ Q (.ref y) L3) :
    ke X H0 M (.Call (.Name x p) [.Starred e sp_] [] pos) σ L Q := fun H z pins s I => by
  obtain ⟨f, F, mk⟩ := D.ex
  refine wpAny_Call_Name_kw (thn (h H z pins s I) fun u s1 ⟨v, H1, I1, rv, L1, z1, ev, q⟩ => ?_)
  subst ev
  obtain rfl : u = Value.ref C := rv
  refine PySem.W.callWith_S (h₀ := X.base) I.ok.mod.kin (by rw [bd.K]; exact mk.kp) (thn (q H1 z1 pins s1 I1) fun u s2 ⟨y, H2, I2, ry, L2, z2, a, xs, ey, hx, q2⟩ => ?_) hst
  subst ey
  obtain rfl : u = Value.ref a := ry
  exact star_any I2 (hx.elim (fun h => .inl (z2.st h)) fun h => .inr (z2.sq h)) fun us s3 I3 r3 => ⟨I3.kIn, make_run bd F mk hj I3 r3 z2 q2⟩
/-- C(e, ..), the def with a star -/
theorem Body.makeP (bd : Body X P w K mg base k N Nv sc) (D : MakeR P w K mg base j C sp) (hj : Nat.ble (j + 1) k = true) (he : starEach (e :: es) X.env = (false, eval e X.env) :: starEach es X.env) (hpl : (backTo pos (starEach es X.env)).any (·.1) = false)
    (h : ke X H0 M (.Name x p) σ L fun v L1 => v = .ref C ∧ ka X H0 M (e :: es) σ L1 fun xs L2 => ∀ y dy, H0 y = none → H0 dy = none → rs H0 M sp EE (.ref y :: xs) ((y, .ins C dy []) :: (dy, .own y) :: L2) fun v L3 => v = .non ∧ Q (.ref y) L3) :
    ke X H0 M (.Call (.Name x p) (e :: es) [] pos) σ L Q := fun H z pins s I => by
  obtain ⟨f, F, mk⟩ := D.ex
  refine wpAny_Call_Name_kw (thn (h H z pins s I) fun u s1 ⟨v, H1, I1, rv, L1, z1, ev, q⟩ => ?_)
  subst ev
  obtain rfl : u = Value.ref C := rv
  refine PySem.W.callWith_K (h₀ := X.base) I.ok.mod.kin (by rw [bd.K]; exact mk.kp) (thn (q H1 z1 pos pins s1 I1) fun us s2 ⟨vs, H2, I2, r2, L2, z2, q2⟩ => ⟨I2.kIn, make_run bd F mk hj I2 r2 z2 q2⟩) he hpl
/-- C.m(e, ..), a class method -/
theorem Body.cmeth (bd : Body X P w K mg base k N Nv sc) (D : CMethT P w K mg base j C m sp) (hj : Nat.ble j k = true)
    (he : starEach (e :: es) X.env = (false, eval e X.env) :: starEach es X.env) (hpl : (backTo pos (starEach es X.env)).any (·.1) = false)
    (ht : ∃ pl : Sem Bool, eval (.Call (.Attribute o m apos) (e :: es) [] pos) X.env = (do
      let ov ← eval o X.env
      standAt apos.atName
      let (f, first) ← holding [ov] (getMethod ov m pl)
      callWith pos f first (backTo pos (starEach (e :: es) X.env)) (backToKw pos (keywordEach [] X.env))))
    (h : ke X H0 M o σ L fun y L1 => y = .ref C ∧ ka X H0 M (e :: es) σ L1 fun vs L2 => rs H0 M sp EE (.ref C :: vs) L2 Q) :
    ke X H0 M (.Call (.Attribute o m apos) (e :: es) [] pos) σ L Q := fun H z pins s I => by
  obtain ⟨_, ht⟩ := ht
  obtain ⟨f, fd, ps, q0, mc, F, r, cm, hb⟩ := D.ex
  rw [← bd.prog, ← bd.w, ← bd.K, ← bd.mg, ← bd.base] at F
  rw [← bd.K] at r cm hb
  have hr := bd.rm (Nat.le_of_ble_eq_true hj)
  refine PySem.W.methodCall_KW (thn (h H z pins s I) fun u s1 ⟨y, H1, I1, ry, L1, z1, ey, q⟩ => ?_) ht
  subst ey
  obtain rfl : u = Value.ref C := ry
  refine ClX.getmethcm_ok I1 r cm fun s2 I2 => ?_
  refine ClX.callwith_cm I2 (ClX.base_none I1 (Nat.le_refl _)) cm.fi (thn (q H1 z1 pos _ s2 I2) fun us s3 ⟨vs, H2, I3, rv, L2, z2, q2⟩ => ⟨⟨ClX.pin_at I3, I3.kIn⟩, ?_⟩) he hpl
  have q3 := q2 H2 z2
  rw [← List.append_nil (V.ref C :: vs)] at q3
  have key : wpAny (model X.prog X.w) X.A (PySem.call (Value.ref s1.heap.objs.size) us) (EP X ((s1.heap.objs.size, PySem.W.methodObj (.ref f) (.ref C)) :: pins) σ (up H0 M Q)) X.xe s3 := by
    refine wpAny_call (PySem.W.method_call (ClX.pin_at I3) (codeAny_mono (fk_code (us := .ref C :: us) (vs := V.ref C :: vs) F hr bd.gd hb .nil px0 I3 (.cons rfl rv) q3) fun res s4 hq => ?_))
    rcases res with er | fl
    · exact hq
    · cases fl with
      | ret u => exact hq
      | next => exact hq.elim
      | brk => exact hq.elim
      | cont => exact hq.elim
  exact thn key fun _ _ y => ClX.unpinE y
theorem special_K {prog : Program} {w : World} {A : Around} {E : Value → Shared → Prop} {s : Shared} {K : PySem.W.Frag} {x C f : Addr} {ox : Obj} {od : Option Obj} {name : Str} {args : List Value} {Q : Option Value → Shared → Prop} (X : K.In s.heap) (I : PySem.W.InstAt s.heap x ox C od) (hs : PySem.W.findIn K (.ref C) name = some (some (.ref f))) (hf : PySem.W.isFn K (.ref f) = true)
    (h : wpAny (model prog w) A (call (.ref f) (.ref x :: args)) (fun v => Q (some v)) E s) : wpAny (model prog w) A (callSpecial? (.ref x) name args) Q E s := by
  unfold callSpecial?
  refine wpAny_bind ?_
  unfold specialOf
  refine wpAny_bind (I.type.here ((PySem.W.looks_findIn X hs).here ?_))
  have fin : wpAny (model prog w) A (call (.ref f) ([.ref x] ++ args) >>= fun v => pure (some v)) Q E s := wpAny_bind (wpAny_mono h (fun v s' h' => wpAny_pure h') fun _ _ h' => h')
  first
    | exact wpAny_holding (wpAny_bind ((PySem.W.bind_fn X _ (beq_iff_eq.mp hf)).here (by exact fin)))
    | exact wpAny_holding (wpAny_bind ((PySem.W.bind_fn X _ (beq_iff_eq.mp hf)).here (wpAny_pure (by exact fin))))
/-- len(o), o of the family -/
theorem Body.lenO {a dx : Addr} {fs : List (Str × V)} {n : Nat} (bd : Body X P w K mg base k N Nv sc) (D : LenT P w K mg base j Cs sp) (hj : Nat.ble (j + 1) k = true) (ia : At L a (.ins C dx fs)) (cC : Cs C) (hn : n ≤ 1000)
    (h : rs H0 M sp EE [.ref a] L fun v L1 => v = .int n ∧ Q (.int n) L1) : rc X H0 M (.builtin "len") [.ref a] L Q := fun H z pins s σ us I rv => by
  obtain ⟨f, fd, ps, F, hf, hb⟩ := D.ex
  rw [← bd.prog, ← bd.w, ← bd.K, ← bd.mg, ← bd.base] at F
  rw [← bd.K] at hf hb
  obtain ⟨f1, f2⟩ := hf C cC
  have hr : Room (j + 1) X.A := bd.rm (Nat.le_of_ble_eq_true hj)
  obtain ⟨u, rfl, ru⟩ : ∃ u, us = [u] ∧ RelV (V.ref a) u := by
    cases rv with
    | cons ru rn => cases rn with
      | nil => exact ⟨_, rfl, ru⟩
  obtain rfl : u = Value.ref a := ru
  obtain ⟨ox, od, J, hd⟩ := insC_at I (.inr ⟨dx, fs, z.get ia⟩)
  refine Calls.call_function_entry kind_len plain_len entry_len (args_len1 _) ?_
  unfold Builtin.«len»
  refine wpAny_bind (m := oneArg "len" _) (wpAny_pure ?_)
  have q := h H z
  have ll : ([Value.ref a] ++ []).length = ps.length := F.len _ _ _ _ q
  have bb := hb s [.ref a] I.kIn ll
  rw [List.append_nil] at bb
  refine wpAny_bind (m := callSpecial? (.ref a) (Str.ofString "__len__")) (special_K I.kIn J f1 f2 (wpAny_call (codeAny_mono (F.go X.A.in1 X.stack s H ⟨[.ref a], []⟩ [.ref a] [.ref a] _ EE hr.in1 bd.gd I.env0.in1 bb (.cons rfl .nil) q) fun res s2 hq => ?_)))
  rcases res with er | fl
  · exact (px0 (X := X) (E := EE) pins σ H s er s2 I hq)
  · cases fl with
    | ret u =>
      obtain ⟨v, H', I3, rv, L3, z3, ev, q3⟩ := I.after hq
      subst ev
      obtain ⟨tk, rfl⟩ := rv
      refine wpAny_bind (wpAny_holding (wpAny_pure ?_))
      refine wpAny_bind (wpAny_letGo ?_)
      show wpAny _ _ (if (n : Int) < 0 then _ else _) _ _ _
      rw [if_neg (by omega)]
      show wpAny _ _ (if (n : Int) ≥ 2 ^ 63 then _ else _) _ _ _
      rw [if_neg (by omega)]
      exact wpAny_bind (wpAny_mkInt (wpAny_pure ⟨_, rfl, .int n, H', I3.tok _, ⟨_, rfl⟩, L3, z3, q3⟩))
    | next => exact hq.elim
    | brk => exact hq.elim
    | cont => exact hq.elim
end
/-! ### tuples put together -/
section
variable {X : Cx} {H0 : Hp} {M : Addr → Prop} {L : LL} {Q : V → LL → Prop} {p q : Addr} {xs ys : List V}
theorem ro_catT (ia : At L p (.tup xs)) (ib : At L q (.tup ys)) (ne : xs ≠ []) (ne2 : ys ≠ []) (hl : xs.length + ys.length ≤ 1000) (k : New H0 (.tup (xs ++ ys)) L Q) : ro X H0 M (binaryOp .Add) (.ref p) (.ref q) L Q :=
  ro_of op_catT fun H z => ⟨p, q, xs, ys, rfl, rfl, z.st ia, z.st ib, ne, Nat.le_trans hl (by decide), fun e => absurd e ne2, fun _ => new_up z k⟩
end
/-! ### sequences whose items are told one by one -/
abbrev sqO : Bool → List V → HO
  | true, xs => .tup xs
  | false, xs => .lst xs
def Alls {α : Type} (h : α → Addr × HO) (L : LL) (xs : List α) : Prop := ∀ x ∈ xs, At L (h x).1 (h x).2
inductive F2 {α β : Type} (T : α → β → Prop) : List α → List β → Prop where
  | nil : F2 T [] []
  | cons {x : α} {y : β} {xs : List α} {ys : List β} (h : T x y) (t : F2 T xs ys) : F2 T (x :: xs) (y :: ys)
section
variable {α β : Type} {T : α → β → Prop} {xs : List α} {ys : List β} {x : α} {y : β}
theorem F2.snoc (h : F2 T xs ys) (k : T x y) : F2 T (xs ++ [x]) (ys ++ [y]) := by
  induction h with
  | nil => exact .cons k .nil
  | cons a _ ih => exact .cons a ih
theorem F2.len (h : F2 T xs ys) : xs.length = ys.length := by
  induction h with
  | nil => rfl
  | cons a _ ih => rw [List.length_cons, List.length_cons, ih]
theorem F2.left (h : F2 T xs ys) : ∀ x ∈ xs, ∃ y ∈ ys, T x y := by
  induction h with
  | nil => intro x hx; cases hx
  | cons a _ ih =>
    intro x hx
    rcases List.mem_cons.mp hx with e | hx
    · rw [e]; exact ⟨_, List.mem_cons_self, a⟩
    · obtain ⟨y, hy, t⟩ := ih x hx; exact ⟨y, List.mem_cons_of_mem _ hy, t⟩
theorem F2.right (h : F2 T xs ys) : ∀ y ∈ ys, ∃ x ∈ xs, T x y := by
  induction h with
  | nil => intro x hx; cases hx
  | cons a _ ih =>
    intro x hx
    rcases List.mem_cons.mp hx with e | hx
    · rw [e]; exact ⟨_, List.mem_cons_self, a⟩
    · obtain ⟨y, hy, t⟩ := ih x hx; exact ⟨y, List.mem_cons_of_mem _ hy, t⟩
theorem F2.map {γ : Type} {f : α → γ} {g : β → γ} (h : F2 T xs ys) (k : ∀ x y, T x y → f x = g y) : xs.map f = ys.map g := by
  induction h with
  | nil => rfl
  | cons a _ ih => rw [List.map_cons, List.map_cons, k _ _ a, ih]
theorem F2.imp {T' : α → β → Prop} (h : F2 T xs ys) (k : ∀ x y, T x y → T' x y) : F2 T' xs ys := by
  induction h with
  | nil => exact .nil
  | cons a _ ih => exact .cons (k _ _ a) ih
theorem F2.app {xs' : List α} {ys' : List β} (h : F2 T xs ys) (k : F2 T xs' ys') : F2 T (xs ++ xs') (ys ++ ys') := by
  induction h with
  | nil => exact k
  | cons a _ ih => exact .cons a ih
theorem F2.get (h : F2 T xs ys) : ∀ {i : Nat} {x : α}, xs[i]? = some x → ∃ y, ys[i]? = some y ∧ T x y := by
  induction h with
  | nil => intro i x h; cases h
  | cons a _ ih =>
    intro i x h
    cases i with
    | zero => cases h; exact ⟨_, rfl, a⟩
    | succ i => exact ih h
theorem F2.drop (h : F2 T xs ys) : ∀ n : Nat, F2 T (xs.drop n) (ys.drop n) := by
  induction h with
  | nil => intro n; rw [List.drop_nil, List.drop_nil]; exact .nil
  | cons a t ih =>
    intro n
    cases n with
    | zero => exact .cons a t
    | succ n => exact ih n
theorem F2.take (h : F2 T xs ys) : ∀ n : Nat, F2 T (xs.take n) (ys.take n) := by
  induction h with
  | nil => intro n; rw [List.take_nil, List.take_nil]; exact .nil
  | cons a t ih =>
    intro n
    cases n with
    | zero => exact .nil
    | succ n => exact .cons a (ih n)
theorem F2.rev (h : F2 T xs ys) : F2 T xs.reverse ys.reverse := by
  induction h with
  | nil => exact .nil
  | cons a _ ih => rw [List.reverse_cons, List.reverse_cons]; exact ih.snoc a
end
section
variable {α : Type} {h : α → Addr × HO} {L L' : LL} {xs ys : List α} {q : Addr × HO} {o : HO} {a : Addr}
theorem At.app_l (ia : At L a o) : At (L ++ L') a o := .of_mem (List.mem_append_left _ ia.mem)
theorem At.app_r (ia : At L' a o) : At (L ++ L') a o := .of_mem (List.mem_append_right _ ia.mem)
theorem Alls.there (k : Alls h L xs) : Alls h (q :: L) xs := fun x hx => .there (k x hx)
theorem Alls.app_l (k : Alls h L xs) : Alls h (L ++ L') xs := fun x hx => .app_l (k x hx)
theorem Alls.app_r (k : Alls h L' xs) : Alls h (L ++ L') xs := fun x hx => .app_r (k x hx)
theorem Alls.self : Alls h (xs.map h) xs := fun x hx => .of_mem (List.mem_map.mpr ⟨x, hx, rfl⟩)
theorem Alls.sub (k : Alls h L xs) (s : ∀ y ∈ ys, y ∈ xs) : Alls h L ys := fun x hx => k x (s x hx)
theorem Alls.two (k : Alls h L xs) (k2 : Alls h L ys) : Alls h L (xs ++ ys) := fun x hx => (List.mem_append.mp hx).elim (k x) (k2 x)
theorem Alls.cons {x : α} (k : At L (h x).1 (h x).2) (k2 : Alls h L xs) : Alls h L (x :: xs) := fun y hy => by
  rcases List.mem_cons.mp hy with e | e
  · rw [e]; exact k
  · exact k2 y e
theorem Alls.nil : Alls h L [] := fun y hy => nomatch hy
theorem Alls.get {H0 H : Hp} {M : Addr → Prop} (k : Alls h L xs) (z : Hs H0 M L H) : ∀ x ∈ xs, H (h x).1 = some (h x).2 := fun x hx => z.get (k x hx)
end
theorem Hs.newsS {H0 H : Hp} {M : Addr → Prop} {L N : LL} (z : Hs H0 M L H) (s : Sub N L) (f : ∀ q ∈ N, H0 q.1 = none) : News H0 H N := by
  have z2 := z.sub s
  refine ⟨?_, f, fun q hq => z2.at_ q hq⟩
  refine List.Pairwise.imp_of_mem (fun {a b} ha hb w => ?_) z2.nd
  obtain ⟨q, hq, rfl⟩ := List.mem_map.mp ha
  exact w.elim id fun w => absurd (f q hq) w.1
theorem Hs.perm {H0 H : Hp} {M : Addr → Prop} {L L' : LL} (h : Hs H0 M L H) (s : L'.Perm L) : Hs H0 M L' H := by
  refine ⟨?_, fun q hq => h.at_ q (s.mem_iff.mp hq), h.fr, h.md⟩
  refine (s.map (·.1)).symm.pairwise h.nd fun {x y} w => ?_
  rcases w with w | w
  · exact .inl (Ne.symm w)
  · by_cases e : y = x
    · exact .inr (by rw [e]; exact w)
    · exact .inl e
section
variable {X : Cx} {tg iter : Expr} {H0 : Hp} {M : Addr → Prop} {L : LL} {σ : L2.St}
theorem kb_perm {L' : LL} {ss : List Stmt} {nx : L2.St → LL → Prop} {rt : V → LL → Prop} {bk ct : L2.St → LL → Prop} (s : L'.Perm L) (h : kb X H0 M ss nx rt bk ct σ L') : kb X H0 M ss nx rt bk ct σ L := fun H z => h H (z.perm s)
/-- what is no longer used is forgotten -/
theorem ke_forget {L' : LL} {e : Expr} {Q : V → LL → Prop} (s : Sub L' L) (h : ke X H0 M e σ L' Q) : ke X H0 M e σ L Q := fun H z => h H (z.sub s)
theorem ki_seq (tp : Bool) {P : It → LL → Prop} (h : ke X H0 M iter σ L fun v L1 => ∃ a xs, v = .ref a ∧ At L1 a (sqO tp xs) ∧ ∀ J, Walks H0 M xs.length (fun L => At L a (sqO tp xs)) (fun i L x L' => L' = L ∧ xs[i]? = some x) J → P J L1) : ki X H0 M tg iter σ L P := by
  cases tp
  · exact ki_list h
  · exact ki_tup h
end
section
variable {α β : Type} {X : Cx} {elt tg iter : Expr} {ifs : List Expr} {scope : Scope} {pos : Pos} {H0 : Hp} {M : Addr → Prop} {L : LL} {σ : L2.St} {Q : V → LL → Prop} {P : Program} {w : World} {K : PySem.W.Frag} {mg : Str → Option Value} {base : Heap} {k : Nat} {N Nv Nw : List Str} {sc : Scope}
/-- [f(x) for x in xs if p(x)], any items; what is made besides is forgotten -/
theorem Body.klV (tp : Bool) (g : α → V) (bd : Body X P w K mg base k N Nv sc) (ns : Ns X N Nw) (own : List (Str × Nat)) (Nb No : List Str) (p : α → Bool) (f : α → V) (vis : ∀ x ∈ Nb, (relS scope sc).names.lookup x = some .local ∨ (relS scope sc).names.lookup x = some .cell ∨ (relS scope sc).names.lookup x = some .free) (pl : ∀ x ∈ Nb, (x == ("__debug__" : Str)) = false ∧ (x == ("__classdict__" : Str)) = false) (lc : ∀ x ∈ No, (relS scope sc).names.lookup x = some .local)
    (h : ke X H0 M iter σ L fun v L1 => ∃ (a : Addr) (is : List α), v = .ref a ∧ At L1 a (sqO tp (is.map g)) ∧ is.length ≤ 1000 ∧
      (∀ x ∈ is, ∀ D acc, H0 D = none → ∀ B, Body B P w K mg base k N Nb (relS scope sc) → Ns B N No → kg B H0 M tg (g x) (wipe σ (own.map (·.2))) ((D, acc) :: L1) fun σ2 L2 => Sub ((D, acc) :: L1) L2 ∧ wipe σ2 (own.map (·.2)) = wipe σ (own.map (·.2)) ∧
        ∀ B, Body B P w K mg base k N Nb (relS scope sc) → kf B H0 M ifs σ2 L2 fun b L3 => Sub ((D, acc) :: L1) L3 ∧ b = p x ∧ (b = true → ∀ B, Body B P w K mg base k N Nb (relS scope sc) → ke B H0 M elt σ2 L3 fun y L4 => y = f x ∧ Sub ((D, acc) :: L1) L4)) ∧
      ∀ D, H0 D = none → Q (.ref D) ((D, .lst ((is.filter p).map f)) :: L1)) :
    kLc X H0 M elt tg iter ifs scope own σ L Q := by
  refine Body.kl bd ns own Nb No vis pl lc (ki_seq tp fun H z => we_mono (h H z) fun v H1 ⟨L1, z1, a, is, ev, ia, hl, st, en⟩ => ⟨L1, z1, a, _, ev, ia, fun J wk D nD => ?_⟩)
  refine ⟨_, _, _, fun i L => L = (D, .lst (((is.take i).filter p).map f)) :: L1, wk, rfl, fun i L hi e => by rw [e]; exact .there ia, fun i x L L' hi e hx B bB nB => ?_, fun L e => ?_⟩
  · obtain ⟨e2, hx⟩ := hx
    subst e2
    subst e
    rw [List.getElem?_map] at hx
    obtain ⟨y, hy, rfl⟩ := Option.map_eq_some_iff.mp hx
    have hm := List.mem_of_getElem? hy
    have key := st y hm D (.lst (((is.take i).filter p).map f)) nD B bB nB
    refine fun H z pins s u I r => thn (key H z pins s u I r) fun _ s' ⟨σ', H', I', L2, z2, e3, e4, q⟩ => ⟨σ', H', I', L2, z2, e4, fun B2 bB2 => kf_mono (q B2 bB2) fun b L3 ⟨e5, e6, q2⟩ => ?_⟩
    cases b with
    | true =>
      rw [if_pos rfl]
      intro B3 bB3
      refine fun H z => we_mono (q2 rfl B3 bB3 H z) fun y2 H2 w => ?_
      obtain ⟨L4, z4, e7, e8⟩ := w
      subst e7
      refine ⟨_, z4.sub e8, _, _, .here, ?_, _, .refl _, ?_⟩
      · rw [List.length_map]
        refine Nat.lt_of_le_of_lt (Nat.le_trans (List.length_filter_le _ _) (by rw [List.length_take]; exact Nat.min_le_right _ _)) (Nat.lt_of_le_of_lt hl (by decide))
      · dsimp only
        rw [take_snoc hy, List.filter_append, List.filter_cons, if_pos e6.symm, List.filter_nil, List.map_append]
        rfl
    | false =>
      rw [if_neg (by decide)]
      refine ⟨_, e5, ?_⟩
      dsimp only
      rw [take_snoc hy, List.filter_append, List.filter_cons, if_neg (by rw [← e6]; decide), List.filter_nil, List.append_nil]
  · subst e
    have := en D nD
    rw [List.length_map, List.take_length]
    exact this
/-- [made(x) for x in xs]: each item a new thing h y, of which T x y; beside it S stays -/
theorem Body.klM (tp : Bool) (g : α → V) (v : β → V) (h : β → Addr × HO) (T : α → β → Prop) (bd : Body X P w K mg base k N Nv sc) (ns : Ns X N Nw) (own : List (Str × Nat)) (Nb No : List Str) (vis : ∀ x ∈ Nb, (relS scope sc).names.lookup x = some .local ∨ (relS scope sc).names.lookup x = some .cell ∨ (relS scope sc).names.lookup x = some .free) (pl : ∀ x ∈ Nb, (x == ("__debug__" : Str)) = false ∧ (x == ("__classdict__" : Str)) = false) (lc : ∀ x ∈ No, (relS scope sc).names.lookup x = some .local)
    (hk : ke X H0 M iter σ L fun w1 L1 => ∃ (a : Addr) (is : List α) (S : LL → Prop), w1 = .ref a ∧ S L1 ∧ (∀ L2, S L2 → At L2 a (sqO tp (is.map g))) ∧ is.length ≤ 1000 ∧
      (∀ x ∈ is, ∀ D acc L2, H0 D = none → S L2 → ∀ (ch : LL), ∀ B, Body B P w K mg base k N Nb (relS scope sc) → Ns B N No → kg B H0 M tg (g x) (wipe σ (own.map (·.2))) ((D, acc) :: (L2 ++ ch)) fun σ2 L3 => wipe σ2 (own.map (·.2)) = wipe σ (own.map (·.2)) ∧
        ∀ B, Body B P w K mg base k N Nb (relS scope sc) → ke B H0 M elt σ2 L3 fun y L4 => ∃ (b : β) (L5 L6 : LL), y = v b ∧ T x b ∧ H0 (h b).1 = none ∧ S L5 ∧ Sub L6 L4 ∧ L6.Perm (h b :: (D, acc) :: (L5 ++ ch))) ∧
      ∀ D L2 (ys : List β), H0 D = none → S L2 → F2 T is ys → (∀ y ∈ ys, H0 (h y).1 = none) → Q (.ref D) ((D, .lst (ys.map v)) :: (L2 ++ ys.map h))) :
    kLc X H0 M elt tg iter [] scope own σ L Q := by
  refine Body.kl bd ns own Nb No vis pl lc (ki_seq tp fun H z => we_mono (hk H z) fun w1 H1 ⟨L1, z1, a, is, S, ev, s1, ia, hl, st, en⟩ => ⟨L1, z1, a, _, ev, ia _ s1, fun J wk D nD => ?_⟩)
  refine ⟨_, _, _, fun i L => ∃ (ys : List β) (L2 : LL), S L2 ∧ F2 T (is.take i) ys ∧ (∀ y ∈ ys, H0 (h y).1 = none) ∧ L = (D, .lst (ys.map v)) :: (L2 ++ ys.map h), wk, ⟨[], L1, s1, .nil, (fun y hy => nomatch hy), by rw [List.map_nil, List.map_nil, List.append_nil]⟩, fun i L hi ⟨ys, L2, s2, _, _, e⟩ => by rw [e]; exact .there (.app_l (ia _ s2)), fun i x L L' hi ⟨ys, L2, s2, f2, nf, e⟩ hx B bB nB => ?_, fun L ⟨ys, L2, s2, f2, nf, e⟩ => ?_⟩
  · obtain ⟨e2, hx⟩ := hx
    subst e2
    subst e
    rw [List.getElem?_map] at hx
    obtain ⟨y, hy, rfl⟩ := Option.map_eq_some_iff.mp hx
    have hm := List.mem_of_getElem? hy
    have key := st y hm D (.lst (ys.map v)) L2 nD s2 (ys.map h) B bB nB
    refine fun H z pins s u I r => thn (key H z pins s u I r) fun _ s' ⟨σ', H', I', L3, z3, e4, q⟩ => ⟨σ', H', I', L3, z3, e4, fun B2 bB2 => ?_⟩
    show kf _ _ _ [] _ _ _
    refine kf_nil ?_
    rw [if_pos rfl]
    intro B3 bB3
    refine fun H z => we_mono (q B3 bB3 H z) fun y2 H2 w => ?_
    obtain ⟨L4, z4, b, L5, L6, e7, tb, nb, s5, sb, pm⟩ := w
    subst e7
    refine ⟨_, (z4.sub sb).perm (L' := (D, .lst (ys.map v)) :: (L5 ++ ys.map h ++ [h b])) ?_, _, _, .here, ?_, _, .refl _, ?_⟩
    · refine List.Perm.trans ?_ pm.symm
      refine List.Perm.trans ?_ (List.Perm.swap _ _ _)
      exact List.Perm.cons _ (List.perm_append_comm (l₂ := [h b]))
    · rw [List.length_map, ← f2.len, List.length_take]
      exact Nat.lt_of_le_of_lt (Nat.le_trans (Nat.min_le_right _ _) hl) (by decide)
    · refine ⟨ys ++ [b], L5, s5, ?_, ?_, ?_⟩
      · rw [take_snoc hy]; exact f2.snoc tb
      · intro y' hy'
        rcases List.mem_append.mp hy' with e | e
        · exact nf y' e
        · rw [List.mem_singleton.mp e]; exact nb
      · rw [List.map_append, List.map_append, List.append_assoc]
        rfl
  · subst e
    rw [List.length_map, List.take_length] at f2
    exact en D L2 ys nD s2 f2 nf
/-- [made() for i in range(n)]: each turn a new thing h y, of which T y; beside it S stays -/
theorem Body.klMR {a : Expr} {p pos : Pos} (v : β → V) (h : β → Addr × HO) (T : β → Prop) (bd : Body X P w K mg base k N Nv sc) (ns : Ns X N Nw) (own : List (Str × Nat)) (Nb No : List Str) (vis : ∀ x ∈ Nb, (relS scope sc).names.lookup x = some .local ∨ (relS scope sc).names.lookup x = some .cell ∨ (relS scope sc).names.lookup x = some .free) (pl : ∀ x ∈ Nb, (x == ("__debug__" : Str)) = false ∧ (x == ("__classdict__" : Str)) = false) (lc : ∀ x ∈ No, (relS scope sc).names.lookup x = some .local)
    (hg : Gl X "range") (hm : X.mg "range" = none) (hse : starEach [a] X.env = [(false, eval a X.env)])
    (hk : ke X H0 M a σ L fun w1 L1 => ∃ (n : Int) (S : LL → Prop), w1 = .int n ∧ S L1 ∧ n ≤ 1000 ∧ 0 ≤ n ∧
      (∀ (i : Nat) D acc L2, (i : Int) < n → H0 D = none → S L2 → ∀ (ch : LL), ∀ B, Body B P w K mg base k N Nb (relS scope sc) → Ns B N No → kg B H0 M tg (.int i) (wipe σ (own.map (·.2))) ((D, acc) :: (L2 ++ ch)) fun σ2 L3 => wipe σ2 (own.map (·.2)) = wipe σ (own.map (·.2)) ∧
        ∀ B, Body B P w K mg base k N Nb (relS scope sc) → ke B H0 M elt σ2 L3 fun y L4 => ∃ (b : β) (L5 L6 : LL), y = v b ∧ T b ∧ H0 (h b).1 = none ∧ S L5 ∧ Sub L6 L4 ∧ L6.Perm (h b :: (D, acc) :: (L5 ++ ch))) ∧
      ∀ D L2 (ys : List β), H0 D = none → S L2 → ys.length = n.toNat → (∀ y ∈ ys, T y ∧ H0 (h y).1 = none) → Q (.ref D) ((D, .lst (ys.map v)) :: (L2 ++ ys.map h))) :
    kLc X H0 M elt tg (.Call (.Name "range" p) [a] [] pos) [] scope own σ L Q := by
  refine Body.kl bd ns own Nb No vis pl lc (ki_range1 hg hm hse fun H z => we_mono (hk H z) fun w1 H1 ⟨L1, z1, n, S, ev, s1, hl, hn, st, en⟩ => ⟨L1, z1, n, ev, by omega, by omega, fun J wk D nD => ?_⟩)
  refine ⟨_, _, _, fun i L => ∃ (ys : List β) (L2 : LL), S L2 ∧ ys.length = i ∧ (∀ y ∈ ys, T y ∧ H0 (h y).1 = none) ∧ L = (D, .lst (ys.map v)) :: (L2 ++ ys.map h), wk, ⟨[], L1, s1, rfl, (fun y hy => nomatch hy), by rw [List.map_nil, List.map_nil, List.append_nil]⟩, fun _ _ _ _ => trivial, fun i x L L' hi ⟨ys, L2, s2, f2, nf, e⟩ hx B bB nB => ?_, fun L ⟨ys, L2, s2, f2, nf, e⟩ => ?_⟩
  · obtain ⟨e2, hx⟩ := hx
    subst e2
    subst e
    subst hx
    have key := st i D (.lst (ys.map v)) L2 (by omega) nD s2 (ys.map h) B bB nB
    refine fun H z pins s u I r => thn (key H z pins s u I r) fun _ s' ⟨σ', H', I', L3, z3, e4, q⟩ => ⟨σ', H', I', L3, z3, e4, fun B2 bB2 => ?_⟩
    show kf _ _ _ [] _ _ _
    refine kf_nil ?_
    rw [if_pos rfl]
    intro B3 bB3
    refine fun H z => we_mono (q B3 bB3 H z) fun y2 H2 w => ?_
    obtain ⟨L4, z4, b, L5, L6, e7, tb, nb, s5, sb, pm⟩ := w
    subst e7
    refine ⟨_, (z4.sub sb).perm (L' := (D, .lst (ys.map v)) :: (L5 ++ ys.map h ++ [h b])) ?_, _, _, .here, ?_, _, .refl _, ?_⟩
    · refine List.Perm.trans ?_ pm.symm
      refine List.Perm.trans ?_ (List.Perm.swap _ _ _)
      exact List.Perm.cons _ (List.perm_append_comm (l₂ := [h b]))
    · rw [List.length_map, f2]
      exact Nat.lt_of_le_of_lt (show i ≤ 1000 by omega) (by decide)
    · refine ⟨ys ++ [b], L5, s5, ?_, ?_, ?_⟩
      · rw [List.length_append, f2]; rfl
      · intro y' hy'
        rcases List.mem_append.mp hy' with e | e
        · exact nf y' e
        · rw [List.mem_singleton.mp e]; exact ⟨tb, nb⟩
      · rw [List.map_append, List.map_append, List.append_assoc]
        rfl
  · subst e
    exact en D L2 ys nD s2 f2 nf
theorem Body.lcMR {a : Expr} {p pos pos2 : Pos} (v : β → V) (h : β → Addr × HO) (T : β → Prop) (bd : Body X P w K mg base k N Nv sc) (ns : Ns X N Nw) (own : List (Str × Nat)) (Nb No : List Str) (ok : BlkOk N sc scope own) (vis : ∀ x ∈ Nb, (relS scope sc).names.lookup x = some .local ∨ (relS scope sc).names.lookup x = some .cell ∨ (relS scope sc).names.lookup x = some .free) (pl : ∀ x ∈ Nb, (x == ("__debug__" : Str)) = false ∧ (x == ("__classdict__" : Str)) = false) (lc : ∀ x ∈ No, (relS scope sc).names.lookup x = some .local)
    (hg : Gl X "range") (hm : X.mg "range" = none) (hse : starEach [a] X.env = [(false, eval a X.env)]) (hs : ∀ x, foldedSetIterable (.Call (.Name "range" p) [a] [] pos) X.env x = pure x)
    (hk : ke X H0 M a σ L fun w1 L1 => ∃ (n : Int) (S : LL → Prop), w1 = .int n ∧ S L1 ∧ n ≤ 1000 ∧ 0 ≤ n ∧
      (∀ (i : Nat) D acc L2, (i : Int) < n → H0 D = none → S L2 → ∀ (ch : LL), ∀ B, Body B P w K mg base k N Nb (relS scope sc) → Ns B N No → kg B H0 M tg (.int i) (wipe σ (own.map (·.2))) ((D, acc) :: (L2 ++ ch)) fun σ2 L3 => wipe σ2 (own.map (·.2)) = wipe σ (own.map (·.2)) ∧
        ∀ B, Body B P w K mg base k N Nb (relS scope sc) → ke B H0 M elt σ2 L3 fun y L4 => ∃ (b : β) (L5 L6 : LL), y = v b ∧ T b ∧ H0 (h b).1 = none ∧ S L5 ∧ Sub L6 L4 ∧ L6.Perm (h b :: (D, acc) :: (L5 ++ ch))) ∧
      ∀ D L2 (ys : List β), H0 D = none → S L2 → ys.length = n.toNat → (∀ y ∈ ys, T y ∧ H0 (h y).1 = none) → Q (.ref D) ((D, .lst (ys.map v)) :: (L2 ++ ys.map h))) :
    ke X H0 M (.ListComp elt [⟨tg, .Call (.Name "range" p) [a] [] pos, [], 0⟩] scope pos2) σ L Q :=
  ke_kl bd.calm (by rw [ns.eq]; exact ns.nd) (by rw [ns.eq, bd.scope]; exact ok) hs (Body.klMR v h T bd ns own Nb No vis pl lc hg hm hse hk)
/-- [f(x) for x in xs] as a value -/
theorem Body.klF (tp : Bool) (g : α → V) (bd : Body X P w K mg base k N Nv sc) (ns : Ns X N Nw) (own : List (Str × Nat)) (Nb No : List Str) (f : α → V) (vis : ∀ x ∈ Nb, (relS scope sc).names.lookup x = some .local ∨ (relS scope sc).names.lookup x = some .cell ∨ (relS scope sc).names.lookup x = some .free) (pl : ∀ x ∈ Nb, (x == ("__debug__" : Str)) = false ∧ (x == ("__classdict__" : Str)) = false) (lc : ∀ x ∈ No, (relS scope sc).names.lookup x = some .local)
    (h : ke X H0 M iter σ L fun v L1 => ∃ (a : Addr) (is : List α), v = .ref a ∧ At L1 a (sqO tp (is.map g)) ∧ is.length ≤ 1000 ∧
      (∀ x ∈ is, ∀ D acc, H0 D = none → ∀ B, Body B P w K mg base k N Nb (relS scope sc) → Ns B N No → kg B H0 M tg (g x) (wipe σ (own.map (·.2))) ((D, acc) :: L1) fun σ2 L2 => wipe σ2 (own.map (·.2)) = wipe σ (own.map (·.2)) ∧
        ∀ B, Body B P w K mg base k N Nb (relS scope sc) → ke B H0 M elt σ2 L2 fun y L4 => y = f x ∧ Sub ((D, acc) :: L1) L4) ∧
      ∀ D, H0 D = none → Q (.ref D) ((D, .lst (is.map f)) :: L1)) :
    kLc X H0 M elt tg iter [] scope own σ L Q := by
  refine Body.kl bd ns own Nb No vis pl lc (ki_seq tp fun H z => we_mono (h H z) fun v H1 ⟨L1, z1, a, is, ev, ia, hl, st, en⟩ => ⟨L1, z1, a, _, ev, ia, fun J wk D nD => ?_⟩)
  refine ⟨_, _, _, fun i L => L = (D, .lst ((is.take i).map f)) :: L1, wk, rfl, fun i L hi e => by rw [e]; exact .there ia, fun i x L L' hi e hx B bB nB => ?_, fun L e => ?_⟩
  · obtain ⟨e2, hx⟩ := hx
    subst e2
    subst e
    rw [List.getElem?_map] at hx
    obtain ⟨y, hy, rfl⟩ := Option.map_eq_some_iff.mp hx
    have hm := List.mem_of_getElem? hy
    have key := st y hm D (.lst ((is.take i).map f)) nD B bB nB
    refine fun H z pins s u I r => thn (key H z pins s u I r) fun _ s' ⟨σ', H', I', L2, z2, e4, q⟩ => ⟨σ', H', I', L2, z2, e4, fun B2 bB2 => ?_⟩
    show kf _ _ _ [] _ _ _
    refine kf_nil ?_
    rw [if_pos rfl]
    intro B3 bB3
    refine fun H z => we_mono (q B3 bB3 H z) fun y2 H2 w => ?_
    obtain ⟨L4, z4, e7, e8⟩ := w
    subst e7
    refine ⟨_, z4.sub e8, _, _, .here, ?_, _, .refl _, ?_⟩
    · rw [List.length_map, List.length_take]
      exact Nat.lt_of_le_of_lt (Nat.le_trans (Nat.min_le_right _ _) hl) (by decide)
    · dsimp only
      rw [take_snoc hy, List.map_append]
      rfl
  · subst e
    have := en D nD
    rw [List.length_map, List.take_length]
    exact this
theorem Body.lcF (tp : Bool) (g : α → V) (bd : Body X P w K mg base k N Nv sc) (ns : Ns X N Nw) (own : List (Str × Nat)) (Nb No : List Str) (f : α → V) (ok : BlkOk N sc scope own) (vis : ∀ x ∈ Nb, (relS scope sc).names.lookup x = some .local ∨ (relS scope sc).names.lookup x = some .cell ∨ (relS scope sc).names.lookup x = some .free) (pl : ∀ x ∈ Nb, (x == ("__debug__" : Str)) = false ∧ (x == ("__classdict__" : Str)) = false) (lc : ∀ x ∈ No, (relS scope sc).names.lookup x = some .local) (hs : ∀ x, foldedSetIterable iter X.env x = pure x)
    (h : ke X H0 M iter σ L fun v L1 => ∃ (a : Addr) (is : List α), v = .ref a ∧ At L1 a (sqO tp (is.map g)) ∧ is.length ≤ 1000 ∧
      (∀ x ∈ is, ∀ D acc, H0 D = none → ∀ B, Body B P w K mg base k N Nb (relS scope sc) → Ns B N No → kg B H0 M tg (g x) (wipe σ (own.map (·.2))) ((D, acc) :: L1) fun σ2 L2 => wipe σ2 (own.map (·.2)) = wipe σ (own.map (·.2)) ∧
        ∀ B, Body B P w K mg base k N Nb (relS scope sc) → ke B H0 M elt σ2 L2 fun y L4 => y = f x ∧ Sub ((D, acc) :: L1) L4) ∧
      ∀ D, H0 D = none → Q (.ref D) ((D, .lst (is.map f)) :: L1)) :
    ke X H0 M (.ListComp elt [⟨tg, iter, [], 0⟩] scope pos) σ L Q :=
  ke_kl bd.calm (by rw [ns.eq]; exact ns.nd) (by rw [ns.eq, bd.scope]; exact ok) hs (Body.klF tp g bd ns own Nb No f vis pl lc h)
theorem Body.lcM (tp : Bool) (g : α → V) (v : β → V) (h : β → Addr × HO) (T : α → β → Prop) (bd : Body X P w K mg base k N Nv sc) (ns : Ns X N Nw) (own : List (Str × Nat)) (Nb No : List Str) (ok : BlkOk N sc scope own) (vis : ∀ x ∈ Nb, (relS scope sc).names.lookup x = some .local ∨ (relS scope sc).names.lookup x = some .cell ∨ (relS scope sc).names.lookup x = some .free) (pl : ∀ x ∈ Nb, (x == ("__debug__" : Str)) = false ∧ (x == ("__classdict__" : Str)) = false) (lc : ∀ x ∈ No, (relS scope sc).names.lookup x = some .local) (hs : ∀ x, foldedSetIterable iter X.env x = pure x)
    (hk : ke X H0 M iter σ L fun w1 L1 => ∃ (a : Addr) (is : List α) (S : LL → Prop), w1 = .ref a ∧ S L1 ∧ (∀ L2, S L2 → At L2 a (sqO tp (is.map g))) ∧ is.length ≤ 1000 ∧
      (∀ x ∈ is, ∀ D acc L2, H0 D = none → S L2 → ∀ (ch : LL), ∀ B, Body B P w K mg base k N Nb (relS scope sc) → Ns B N No → kg B H0 M tg (g x) (wipe σ (own.map (·.2))) ((D, acc) :: (L2 ++ ch)) fun σ2 L3 => wipe σ2 (own.map (·.2)) = wipe σ (own.map (·.2)) ∧
        ∀ B, Body B P w K mg base k N Nb (relS scope sc) → ke B H0 M elt σ2 L3 fun y L4 => ∃ (b : β) (L5 L6 : LL), y = v b ∧ T x b ∧ H0 (h b).1 = none ∧ S L5 ∧ Sub L6 L4 ∧ L6.Perm (h b :: (D, acc) :: (L5 ++ ch))) ∧
      ∀ D L2 (ys : List β), H0 D = none → S L2 → F2 T is ys → (∀ y ∈ ys, H0 (h y).1 = none) → Q (.ref D) ((D, .lst (ys.map v)) :: (L2 ++ ys.map h))) :
    ke X H0 M (.ListComp elt [⟨tg, iter, [], 0⟩] scope pos) σ L Q :=
  ke_kl bd.calm (by rw [ns.eq]; exact ns.nd) (by rw [ns.eq, bd.scope]; exact ok) hs (Body.klM tp g v h T bd ns own Nb No vis pl lc hk)
end
/-! ### what the top has left -/
structure FunCM (K : PySem.W.Frag) (C : Addr) (m qual : Str) (st : Stmt) : Prop where
  ex : ∃ f fd p mc, Fun K m qual st f fd ∧ ClX.CRead K C mc ∧ ClX.CMet K C mc m p f
structure FunN (K : PySem.W.Frag) (Cs : Addr → Prop) (qual : Str) (st : Stmt) : Prop where
  ex : ∃ f fd, Fun K "__len__" qual st f fd ∧ ∀ C, Cs C → PySem.W.findIn K (.ref C) "__len__" = some (some (.ref f)) ∧ PySem.W.isFn K (.ref f) = true
section
variable {P : Program} {w : World} {K : PySem.W.Frag} {mg : Str → Option Value} {base : Heap} {k : Nat} {x m qual : Str} {st : Stmt} {sp : Sp} {ps : List Str} {Cs : Addr → Prop} {C : Addr}
theorem FunCM.ok (F : FunCM K C m qual st) (b : ∀ f fd, Fun K m qual st f fd → Binds K fd ps []) (h : ∀ f fd, Fun K m qual st f fd → Fk P w K mg base CX0 k f fd ps sp) : CMethT P w K mg base k C m sp := by
  obtain ⟨f, fd, p, mc, F, r, c⟩ := F.ex
  exact ⟨f, fd, ps, p, mc, h f fd F, r, c, b f fd F⟩
theorem FunN.ok (F : FunN K Cs qual st) (b : ∀ f fd, Fun K "__len__" qual st f fd → Binds K fd ps []) (h : ∀ f fd, Fun K "__len__" qual st f fd → Fk P w K mg base CX0 k f fd ps sp) : LenT P w K mg base k Cs sp := by
  obtain ⟨f, fd, F, c⟩ := F.ex
  exact ⟨f, fd, ps, h f fd F, c, b f fd F⟩
theorem FunI.okR (F : FunI K mg x C qual st) (h : ∀ f fd, Fun K "__init__" qual st f fd → FkR P w K mg base CX0 k f sp) : MakeR P w K mg base k C sp := by
  obtain ⟨f, fd, F, hm, mk⟩ := F.ex
  exact ⟨f, h f fd F, mk⟩
end
end Xi

/-! ## Num4 -/
/-! Lines one after another, as numbers. -/
namespace Xi
abbrev T3 := Int × Int × Int
structure LOk' (e t r : Int) : Prop where
  e1 : 0 < e
  t1 : 0 ≤ t
  t2 : t < e
  r1 : 0 ≤ r
abbrev T3.ok (x : T3) : Prop := LOk' x.1 x.2.1 x.2.2
abbrev T3.arr (x : T3) (p : Int) : Int := Xi.arr x.1 x.2.1 x.2.2 p
abbrev jnT (x y : T3) : T3 := (addE x.1 y.1, addT x.1 x.2.1 x.2.2 y.1 y.2.1, addR x.1 x.2.1 x.2.2 y.1 y.2.1 y.2.2)
def endT : List T3 → Int → Int
  | [], p => p
  | x :: r, p => endT r (x.arr p)
def joinF : T3 → List T3 → T3
  | a, [] => a
  | a, x :: r => joinF (jnT a x) r
abbrev joinT (ns : List T3) : T3 := joinF (1, 0, 0) ns
abbrev FitsT (ns : List T3) : Prop := ns.Pairwise fun x y => FitI x.1 y.1
theorem endT_app : ∀ (xs ys : List T3) (p : Int), endT (xs ++ ys) p = endT ys (endT xs p)
  | [], _, _ => rfl
  | x :: r, ys, p => endT_app r ys (x.arr p)
theorem joinF_app : ∀ (a : T3) (xs ys : List T3), joinF a (xs ++ ys) = joinF (joinF a xs) ys
  | _, [], _ => rfl
  | a, x :: r, ys => joinF_app (jnT a x) r ys
theorem FitI.sym {e f : Int} (h : FitI e f) : FitI f e := h.elim .inr .inl
theorem jn_ok {x y : T3} (a : x.ok) (b : y.ok) : (jnT x y).ok :=
  let ⟨p, q, r, s⟩ := add_rng (t := x.2.1) (r := x.2.2) (u := y.2.1) (s := y.2.2) a.e1 b.e1 a.t1 a.t2 a.r1 b.r1; ⟨p, q, r, s⟩
theorem jn_arr {x y : T3} (a : x.ok) (b : y.ok) (f : FitI x.1 y.1) (p : Int) : (jnT x y).arr p = y.arr (x.arr p) := add_arr a.e1 b.e1 f
theorem addE_or (e f : Int) : addE e f = e ∨ addE e f = f := by unfold addE; split <;> simp
theorem addE_ge (e f : Int) : e ≤ addE e f ∧ f ≤ addE e f := by unfold addE; split <;> omega
theorem jn_fit {x y : T3} {f : Int} (a : FitI x.1 f) (b : FitI y.1 f) : FitI (jnT x y).1 f := by
  show FitI (addE x.1 y.1) f
  rcases addE_or x.1 y.1 with e | e <;> rw [e] <;> assumption
/-- what is known of a sum -/
structure Joined (a : T3) (ns : List T3) (j : T3) : Prop where
  ok : j.ok
  arr : ∀ p, j.arr p = endT ns (a.arr p)
  mem : j.1 = a.1 ∨ ∃ x ∈ ns, j.1 = x.1
  ge : a.1 ≤ j.1 ∧ ∀ x ∈ ns, x.1 ≤ j.1
theorem joinF_ok : ∀ {ns : List T3} {a : T3}, a.ok → (∀ x ∈ ns, x.ok) → FitsT (a :: ns) → Joined a ns (joinF a ns)
  | [], a, h, _, _ => ⟨h, fun _ => rfl, .inl rfl, Int.le_refl _, fun _ z => nomatch z⟩
  | x :: r, a, h, ho, hf => by
    have hx := ho x List.mem_cons_self
    obtain ⟨f1, f2⟩ := List.pairwise_cons.mp hf
    obtain ⟨f3, f4⟩ := List.pairwise_cons.mp f2
    have ih := joinF_ok (ns := r) (a := jnT a x) (jn_ok h hx) (fun y hy => ho y (List.mem_cons_of_mem _ hy)) (List.pairwise_cons.mpr ⟨fun y hy => jn_fit (f1 y (List.mem_cons_of_mem _ hy)) (f3 y hy), f4⟩)
    obtain ⟨g1, g2⟩ := addE_ge a.1 x.1
    refine ⟨ih.ok, fun p => ?_, ?_, ?_, ?_⟩
    · rw [show joinF a (x :: r) = joinF (jnT a x) r from rfl, ih.arr, jn_arr h hx (f1 x List.mem_cons_self)]; rfl
    · show (joinF (jnT a x) r).1 = a.1 ∨ _
      rcases ih.mem with e | ⟨y, hy, e⟩
      · rcases addE_or a.1 x.1 with z | z
        · exact .inl (e.trans z)
        · exact .inr ⟨x, List.mem_cons_self, e.trans z⟩
      · exact .inr ⟨y, List.mem_cons_of_mem _ hy, e⟩
    · exact Int.le_trans g1 ih.ge.1
    · intro y hy
      rcases List.mem_cons.mp hy with e | hy
      · rw [e]; exact Int.le_trans g2 ih.ge.1
      · exact ih.ge.2 y hy
theorem one_ok : T3.ok (1, 0, 0) := ⟨by decide, by decide, by decide, by decide⟩
theorem one_arr (p : Int) : T3.arr (1, 0, 0) p = p := by show p + (0 - p) % 1 + 0 = p; rw [Int.emod_one]; omega
theorem fits_one {ns : List T3} (f : FitsT ns) : FitsT ((1, 0, 0) :: ns) := List.pairwise_cons.mpr ⟨fun x _ => .inl (Int.one_dvd _), f⟩
/-- numbers of a route -/
structure RtOk (ns : List T3) : Prop where
  ok : ∀ x ∈ ns, x.ok
  fit : FitsT ns
  n1 : 1 ≤ ns.length
  n2 : ns.length ≤ 60
theorem join_ok {ns : List T3} (h : ∀ x ∈ ns, x.ok) (f : FitsT ns) : Joined (1, 0, 0) ns (joinT ns) := joinF_ok one_ok h (fits_one f)
theorem join_arr {ns : List T3} (h : ∀ x ∈ ns, x.ok) (f : FitsT ns) (p : Int) : (joinT ns).arr p = endT ns p := by rw [(join_ok h f).arr, one_arr]
theorem join_mem {ns : List T3} (h : ∀ x ∈ ns, x.ok) (f : FitsT ns) (n : ns ≠ []) : ∃ x ∈ ns, (joinT ns).1 = x.1 := by
  rcases (join_ok h f).mem with e | e
  · cases ns with
    | nil => exact absurd rfl n
    | cons x r =>
      have h1 := (join_ok h f).ge.2 x List.mem_cons_self
      have h2 := (h x List.mem_cons_self).e1
      refine ⟨x, List.mem_cons_self, ?_⟩
      rw [e] at h1 ⊢
      show (1 : Int) = x.1
      have : x.1 ≤ 1 := h1
      omega
  · exact e
/-- the one line with these arrivals -/
theorem arr_uniq {x y : T3} (a : x.ok) (b : y.ok) (h : ∀ p, x.arr p = y.arr p) : x = y := by
  obtain ⟨e1, e2, e3⟩ := arr_inj a.e1 a.t1 a.t2 b.e1 b.t1 b.t2 h
  obtain ⟨x1, x2, x3⟩ := x
  obtain ⟨y1, y2, y3⟩ := y
  simp only at e1 e2 e3
  rw [e1, e2, e3]
theorem join_uniq {ns : List T3} {x : T3} (h : ∀ x ∈ ns, x.ok) (f : FitsT ns) (a : x.ok) (k : ∀ p, x.arr p = endT ns p) : x = joinT ns := arr_uniq a (join_ok h f).ok fun p => by rw [k, join_arr h f]
theorem arr_mono {x : T3} (a : x.ok) {p q : Int} (h : p ≤ q) : x.arr p ≤ x.arr q := by
  have := (galois (e := x.1) (t := x.2.1) (r := x.2.2) (p := q) (q := x.arr q) a.e1).mp (Int.le_refl _)
  exact (galois (e := x.1) (t := x.2.1) (r := x.2.2) (p := p) (q := x.arr q) a.e1).mpr (Int.le_trans h this)
theorem arr_self {x : T3} (a : x.ok) (p : Int) : p ≤ x.arr p := by
  have h1 : p ≤ dep x.1 x.2.1 p := dep_ge a.e1
  have h2 := a.r1
  show p ≤ dep x.1 x.2.1 p + x.2.2
  omega
theorem end_mono : ∀ {ns : List T3}, (∀ x ∈ ns, x.ok) → ∀ {p q : Int}, p ≤ q → endT ns p ≤ endT ns q
  | [], _, _, _, h => h
  | x :: r, ho, _, _, h => end_mono (ns := r) (fun y hy => ho y (List.mem_cons_of_mem _ hy)) (arr_mono (ho x List.mem_cons_self) h)
theorem end_self : ∀ {ns : List T3}, (∀ x ∈ ns, x.ok) → ∀ p : Int, p ≤ endT ns p
  | [], _, p => Int.le_refl p
  | x :: r, ho, p => Int.le_trans (arr_self (ho x List.mem_cons_self) p) (end_self (ns := r) (fun y hy => ho y (List.mem_cons_of_mem _ hy)) _)
theorem RtOk.one {x : T3} (h : x.ok) : RtOk [x] := ⟨by simpa using h, by simp, by simp, by simp⟩
theorem RtOk.sub {ns ms : List T3} (h : RtOk ns) (s : List.Sublist ms ns) (n : 1 ≤ ms.length) : RtOk ms := ⟨fun x hx => h.ok x (s.subset hx), h.fit.sublist s, n, Nat.le_trans s.length_le h.n2⟩
theorem RtOk.ne {ns : List T3} (h : RtOk ns) : ns ≠ [] := fun e => by have := h.n1; rw [e] at this; exact absurd this (by decide)
theorem RtOk.mem {ns ms : List T3} (h : RtOk ns) (k : ∀ x ∈ ms, ∃ y ∈ ns, x.1 = y.1) (o : ∀ x ∈ ms, x.ok) (n1 : 1 ≤ ms.length) (n2 : ms.length ≤ 60) : RtOk ms := by
  refine ⟨o, ?_, n1, n2⟩
  refine List.pairwise_of_forall_mem_list fun x hx y hy => ?_
  obtain ⟨u, hu, e1⟩ := k x hx
  obtain ⟨v, hv, e2⟩ := k y hy
  rw [e1, e2]
  clear e1 e2 hx hy k o
  have key : ∀ {ns : List T3}, FitsT ns → u ∈ ns → v ∈ ns → FitI u.1 v.1 := by
    intro ns
    induction ns with
    | nil => intro _ h; cases h
    | cons a r ih =>
      intro f hu hv
      obtain ⟨f1, f2⟩ := List.pairwise_cons.mp f
      rcases List.mem_cons.mp hu with e | hu
      · rcases List.mem_cons.mp hv with e2 | hv
        · rw [e, e2]; exact .inl (Int.dvd_refl _)
        · rw [e]; exact f1 v hv
      · rcases List.mem_cons.mp hv with e2 | hv
        · rw [e2]; exact (f1 u hu).sym
        · exact ih f2 hu hv
  exact key h.fit hu hv
theorem fits_join {xs : List T3} {y : T3} (h : ∀ x ∈ xs, x.ok) (f : FitsT (xs ++ [y])) : FitI (joinT xs).1 y.1 := by
  obtain ⟨f1, _, f3⟩ := List.pairwise_append.mp f
  rcases (join_ok h f1).mem with e | ⟨x, hx, e⟩
  · rw [e]; exact .inl (Int.one_dvd _)
  · rw [e]; exact f3 x hx y List.mem_cons_self
end Xi

/-! ## Rev -/
/-! xs[::-1]. -/
namespace Xi
open PySem PySem.Spec PyProof.Rows L2 PySem.SeqAt HT
theorem all_pick {α : Type} (xs : List α) : (List.range xs.length).filterMap (fun m => xs[m]?) = xs := by
  induction xs with
  | nil => rfl
  | cons x r ih =>
    rw [List.length_cons, List.range_succ_eq_map, List.filterMap_cons]
    show x :: List.filterMap _ (List.map Nat.succ _) = _
    rw [List.filterMap_map]
    show x :: List.filterMap (fun m => r[m]?) _ = _
    rw [ih]
theorem fm_congr {α β : Type} {f g : α → Option β} : ∀ {l : List α}, (∀ x ∈ l, f x = g x) → l.filterMap f = l.filterMap g
  | [], _ => rfl
  | x :: r, h => by
    rw [List.filterMap_cons, List.filterMap_cons, h x List.mem_cons_self, fm_congr fun y hy => h y (List.mem_cons_of_mem _ hy)]
theorem pick_rev {α : Type} (xs : List α) : pickSt xs ((xs.length : Int) - 1) (-1) xs.length = xs.reverse := by
  show (List.range xs.length).filterMap (fun (m : Nat) => xs[((xs.length : Int) - 1 + (m : Int) * -1).toNat]?) = _
  have e : (List.range xs.length).filterMap (fun (m : Nat) => xs[((xs.length : Int) - 1 + (m : Int) * -1).toNat]?) = ((List.range xs.length).map fun k => xs.length - 1 - k).filterMap fun m => xs[m]? := by
    rw [List.filterMap_map]
    refine fm_congr fun m hm => ?_
    have := List.mem_range.mp hm
    show _ = xs[xs.length - 1 - m]?
    congr 1
    omega
  rw [e, PySem.W.krv_range, List.filterMap_reverse, all_pick]
theorem adj_rev (n : Nat) : Builtin.Slice.sliceAdjust none none (-1) (n : Int) = ((n : Int) - 1, -1) := by
  first
  | rfl
  | simp [Builtin.Slice.sliceAdjust]
theorem places_rev (n : Nat) : Builtin.Slice.slicePlaces ((n : Int) - 1) (-1) (-1) = n := by
  unfold Builtin.Slice.slicePlaces
  by_cases h : n = 0
  · subst h; decide
  · simp
    omega
section
variable {X : Cx} {H0 : Hp} {M : Addr → Prop} {L : LL} {Q : V → LL → Prop} {e : Expr} {σ : L2.St} {pos p1 p2 p3 : Pos} {k : Nat}
theorem ke_revL (h : ke X H0 M e σ L fun x L1 => ∃ p xs, x = .ref p ∧ At L1 p (.lst xs) ∧ New H0 (.lst xs.reverse) L1 Q) : ke X H0 M (.Subscript e (.Slice none none (some (.UnaryOp .USub (.Constant (.int 1) k p1) p2)) p3) pos) σ L Q := fun H z =>
  we_of (pe_revL pe_we) (we_mono (h H z) fun x H1 ⟨L1, z1, p, xs, ex, ia, q⟩ => ⟨p, xs, ex, z1.sq ia, new_up z1 q⟩)
theorem ke_revT (h : ke X H0 M e σ L fun x L1 => ∃ p xs, x = .ref p ∧ At L1 p (.tup xs) ∧ xs.length ≤ 1000 ∧ New H0 (.tup xs.reverse) L1 Q) : ke X H0 M (.Subscript e (.Slice none none (some (.UnaryOp .USub (.Constant (.int 1) k p1) p2)) p3) pos) σ L Q := fun H z pins s I => by
  refine Subscript_ (thn (h H z pins s I) fun v s1 ⟨x, H1, I1, r1, L1, z1, p, xs, ex, ia, hl, q⟩ => ?_)
  subst ex
  cases r1
  have hst : PO X (some (.UnaryOp .USub (.Constant (.int 1) k p1) p2)) (tPart (tUn (rU fun i => .int (-i)) (tC (.int 1)))) := po_some (pe_un un_neg pe_int)
  refine wpAny_Slice (thn (po_none.run pins s1 σ H1 (fun o H2 => o = none ∧ H2 = H1) I1 ⟨rfl, rfl⟩) fun vl s2 ⟨l, H2, I2, pl, el, e2⟩ => ?_)
  subst el e2
  refine thn (po_none.run pins s2 σ H2 (fun o H3 => o = none ∧ H3 = H2) I2 ⟨rfl, rfl⟩) fun vu s3 ⟨u, H3, I3, pu, eu, e3⟩ => ?_
  subst eu e3
  refine thn (hst.run pins s3 σ H3 (fun o H4 => o = some (-1) ∧ H4 = H3) I3 ⟨1, rfl, -1, rfl, rfl, rfl⟩) fun vs s4 ⟨o, H4, I4, ps, eo, e4⟩ => ?_
  subst eo e4
  have I5 : Inv X pins σ H4 { s4 with heap := s4.heap.push { cls := .type "slice", data := .fields #[vl, vu, vs] } } := I4.kept (t' := s4.toks) fun b ob q => Heap.get?_push_of_some _ q
  obtain ⟨its, r, ht, hz2⟩ := I5.tuple (z1.st ia)
  have hlen : its.toArray.size = xs.length := by rw [List.size_toArray]; exact r.length.symm
  have hlen2 : its.length = xs.length := r.length.symm
  have e1 : pickSt its ((xs.length : Int) - 1) (-1) xs.length = its.reverse := by rw [← hlen2]; exact pick_rev its
  have rp : Vals xs.reverse its.reverse := r.reverse
  show wpAny (model X.prog X.w) X.A (subscriptTail e (.Slice none none (some (.UnaryOp .USub (.Constant (.int 1) k p1) p2)) p3) (.ref p) (.ref s4.heap.objs.size)) _ X.xe { s4 with heap := s4.heap.push { cls := .type "slice", data := .fields #[vl, vu, vs] } }
  refine tail_any (ops := [.ref p, .ref s4.heap.objs.size]) ht.typeIs (PyProof.Rows.slot_tuple_getitem.lookup) ?_ (by with_unfolding_all rfl)
  refine getItem_tuple_st ht (Heap.IsSliceOf.new _ vl vu vs) pl pu ps (c := -1) (a := (xs.length : Int) - 1) (b := -1) (k := xs.length) rfl (by decide) (by decide) (by rw [hlen]; exact adj_rev _) (places_rev _) ?_ ?_
  · show (pickSt its ((xs.length : Int) - 1) (-1) xs.length).length ≤ _
    rw [e1, List.length_reverse, hlen2]
    exact Nat.le_trans hl (by decide)
  have n5 := I5.hok.fresh (Nat.le_refl _)
  refine ⟨.ref _, _, I5.laid (t' := s4.toks) (o := .tup xs.reverse) (fun b ob q => Heap.get?_push_of_some _ q) (Nat.le_refl _) ?_, rfl, new_up z1 q _ n5⟩
  refine ⟨by rw [List.length_reverse]; exact Nat.le_trans hl (by decide), _, rp, ?_⟩
  rw [← e1]
  exact IsTup.new _ _
end
end Xi

/-! ## Num5 -/
/-! Latest starts of lines one after another; backward. -/
namespace Xi
abbrev T3.lat (x : T3) (p : Int) : Int := Xi.lat x.1 x.2.1 x.2.2 p
def latT : List T3 → Int → Int
  | [], g => g
  | x :: r, g => x.lat (latT r g)
abbrev backN (x : T3) : T3 := (x.1, backT x.1 x.2.1 x.2.2, x.2.2)
theorem backN_ok {x : T3} (h : x.ok) : (backN x).ok := ⟨h.e1, (backT_rng h.e1).1, (backT_rng h.e1).2, h.r1⟩
theorem end_lat : ∀ {ns : List T3}, (∀ x ∈ ns, x.ok) → ∀ {p g : Int}, endT ns p ≤ g ↔ p ≤ latT ns g
  | [], _, _, _ => Iff.rfl
  | x :: r, h, p, g => by
    have ih := end_lat (ns := r) (fun y hy => h y (List.mem_cons_of_mem _ hy)) (p := x.arr p) (g := g)
    show endT r (x.arr p) ≤ g ↔ p ≤ x.lat (latT r g)
    rw [ih]
    exact galois (h x List.mem_cons_self).e1
theorem le_ext {a b : Int} (h : ∀ p : Int, p ≤ a ↔ p ≤ b) : a = b := by
  have h1 := (h a).mp (Int.le_refl _)
  have h2 := (h b).mpr (Int.le_refl _)
  omega
theorem lat_join {ns : List T3} (h : ∀ x ∈ ns, x.ok) (f : FitsT ns) (g : Int) : (joinT ns).lat g = latT ns g := le_ext fun p => by
  rw [← end_lat h, ← join_arr h f]
  exact (galois (join_ok h f).ok.e1).symm
theorem back_end : ∀ {ns : List T3}, (∀ x ∈ ns, x.ok) → ∀ p : Int, endT (ns.reverse.map backN) p = -(latT ns (-p))
  | [], _, p => by show p = - -p; omega
  | x :: r, h, p => by
    have ih := back_end (ns := r) (fun y hy => h y (List.mem_cons_of_mem _ hy)) p
    rw [List.reverse_cons, List.map_append, endT_app, ih]
    show (backN x).arr (-(latT r (-p))) = -(x.lat (latT r (-p)))
    have := back_arr (t := x.2.1) (r := x.2.2) (p := -(latT r (-p))) (h x List.mem_cons_self).e1
    rw [Int.neg_neg] at this
    exact this
theorem backs_ok {ns : List T3} (h : ∀ x ∈ ns, x.ok) : ∀ x ∈ ns.reverse.map backN, x.ok := fun x hx => by
  obtain ⟨y, hy, rfl⟩ := List.mem_map.mp hx
  exact backN_ok (h y (List.mem_reverse.mp hy))
theorem back_lat_end {ns : List T3} (h : ∀ x ∈ ns, x.ok) (q : Int) : latT (ns.reverse.map backN) q = -(endT ns (-q)) := le_ext fun p => by
  rw [← end_lat (backs_ok h), back_end h]
  have := end_lat h (p := -q) (g := -p)
  constructor
  · intro k; have := this.mpr (by omega); omega
  · intro k; have := this.mp (by omega); omega
theorem backs_fit {ns : List T3} (f : FitsT ns) : FitsT (ns.reverse.map backN) := by
  unfold FitsT at f ⊢
  rw [List.pairwise_map]
  refine List.pairwise_reverse.mpr (f.imp fun h => ?_)
  exact FitI.sym h
/-- the line of the legs backward is the line backward -/
theorem back_join {ns : List T3} (h : ∀ x ∈ ns, x.ok) (f : FitsT ns) : backN (joinT ns) = joinT (ns.reverse.map backN) :=
  join_uniq (backs_ok h) (backs_fit f) (backN_ok (join_ok h f).ok) fun p => by
    rw [back_end h, ← lat_join h f]
    exact back_arr (join_ok h f).ok.e1
theorem backN_two {x : T3} (h : x.ok) : backN (backN x) = x := by
  show (x.1, backT x.1 (backT x.1 x.2.1 x.2.2) x.2.2, x.2.2) = x
  rw [back_back h.e1 h.t1 h.t2]
theorem backs_two {ns : List T3} (h : ∀ x ∈ ns, x.ok) : (ns.reverse.map backN).reverse.map backN = ns := by
  rw [← List.map_reverse, List.reverse_reverse, List.map_map]
  have e : ns.map (backN ∘ backN) = ns.map id := List.map_congr_left fun x hx => backN_two (h x hx)
  rw [e, List.map_id]
theorem late_first {x : T3} {r : List T3} {g : Int} : (latT (x :: r) g - x.2.1) % x.1 = 0 := Int.emod_eq_zero_of_dvd (lat_on x.1 x.2.1 x.2.2 (latT r g))
end Xi

/-! ## Lst -/
/-! Lists of any length: equal ones, repeated ones. -/
namespace Xi
open PySem PySem.Spec PyProof.Rows L2
section
variable {X : Cx} {H0 : Hp} {M : Addr → Prop} {L L' L'' : LL} {σ : L2.St} {nx : L2.St → LL → Prop} {rt : V → LL → Prop} {bk ct : L2.St → LL → Prop} {Q : V → LL → Prop}
theorem perm_mid (A B : LL) : (B ++ A).Perm (A ++ B) := List.perm_append_comm
theorem kb_nilP (p : L'.Perm L'') (s : Sub L'' L) (h : nx σ L') : kb X H0 M [] nx rt bk ct σ L := fun H z => wb_of pss_nil ⟨L', (z.sub s).perm p, h⟩
theorem kb_subP {ss : List Stmt} (p : L'.Perm L'') (s : Sub L'' L) (h : kb X H0 M ss nx rt bk ct σ L') : kb X H0 M ss nx rt bk ct σ L := fun H z => h H ((z.sub s).perm p)
theorem ke_subP {e : Expr} (p : L'.Perm L'') (s : Sub L'' L) (h : ke X H0 M e σ L' Q) : ke X H0 M e σ L Q := fun H z => h H ((z.sub s).perm p)
theorem ro_rep1 {l : Addr} {x : V} {n : Int} (ia : At L l (.lst [x])) (h0 : 0 ≤ n) (h1 : n ≤ 1000) (k : New H0 (.lst (List.replicate n.toNat x)) L Q) : ro X H0 M (binaryOp .Mult) (.ref l) (.int n) L Q :=
  ro_of op_rep fun H z => ⟨l, n, [x], rfl, rfl, z.get ia, by omega, by omega, by show 1 * n.toNat ≤ sizeLine; exact Nat.le_trans (show 1 * n.toNat ≤ 1000 by omega) (by decide), by
    have e : (List.replicate n.toNat [x]).flatten = List.replicate n.toNat x := by
      induction n.toNat with
      | zero => rfl
      | succ m ih => rw [List.replicate_succ, List.flatten_cons, ih]; rfl
    first
      | exact new_up z k
      | (rw [e]; exact new_up z k)
      | (intro p np; rw [e]; exact new_up z k p np)⟩
end
section
variable {α : Type} {L : LL} {v : α → V} {d : α → PyData}
theorem gns_map : ∀ {xs : List α}, (∀ x ∈ xs, Gn L (v x) (d x)) → Gns L (xs.map v) (xs.map d)
  | [], _ => .nil
  | x :: r, h => .cons (h x List.mem_cons_self) (gns_map fun y hy => h y (List.mem_cons_of_mem _ hy))
theorem gfs_map : ∀ {xs : List α}, (∀ x ∈ xs, Gf (v x) (d x)) → Gfs (xs.map v) (xs.map d)
  | [], _ => .nil
  | x :: r, h => .cons (h x List.mem_cons_self) (gfs_map fun y hy => h y (List.mem_cons_of_mem _ hy))
theorem gns_gfs : ∀ {vs : List V} {ds : List PyData}, Gfs vs ds → Gns L vs ds
  | _, _, .nil => .nil
  | _, _, .cons h t => .cons (.fl h) (gns_gfs t)
theorem gns_rep {x : V} {e : PyData} (h : Gn L x e) : ∀ n : Nat, Gns L (List.replicate n x) (List.replicate n e)
  | 0 => .nil
  | n + 1 => .cons h (gns_rep h n)
end
/-- (int, int, int), by its place -/
structure Tp where
  a : Addr
  n : T3
abbrev Tp.v (x : Tp) : V := .ref x.a
abbrev tpO (n : T3) : HO := .tup [.int n.1, .int n.2.1, .int n.2.2]
abbrev Tp.o (x : Tp) : Addr × HO := (x.a, tpO x.n)
abbrev tpD (n : T3) : PyData := .tuple [.int n.1, .int n.2.1, .int n.2.2]
theorem gn_tp {L : LL} {a : Addr} {n : T3} (h : At L a (tpO n)) : Gn L (.ref a) (tpD n) := .tup h (.cons .int (.cons .int (.cons .int .nil)))
theorem gns_tp {L : LL} {ts : List Tp} (h : Alls Tp.o L ts) : Gns L (ts.map Tp.v) ((ts.map Tp.n).map tpD) := by
  rw [List.map_map]
  exact gns_map fun x hx => gn_tp (h x hx)
theorem Gns.lays {L : LL} {vs : List V} {ds : List PyData} (h : Gns L vs ds) : PyData.canLayAll0 ds = true := h.lay.1
theorem spot_app' {a : Addr} {o : HO} {L : LL} {g : HO → LL} : ∀ Ts : LL, Spot L a o g → Spot (Ts ++ L) a o (fun o' => Ts ++ g o')
  | [], h => h
  | _ :: Ts, h => .there (spot_app' Ts h)
/-- all that L1 knows L0 knows -/
def Lift (L1 L0 : LL) : Prop := ∀ a o, At L1 a o → At L0 a o
theorem At.lift {L1 L0 : LL} {a : Addr} {o : HO} (k : Lift L1 L0) (h : At L1 a o) : At L0 a o := k a o h
theorem Alls.lift {α : Type} {h : α → Addr × HO} {L1 L0 : LL} {xs : List α} (k : Lift L1 L0) (a : Alls h L1 xs) : Alls h L0 xs := fun x hx => k _ _ (a x hx)
section
variable {α β : Type} {X : Cx} {elt tg iter : Expr} {scope : Scope} {pos : Pos} {H0 : Hp} {M : Addr → Prop} {L : LL} {σ : L2.St} {Q : V → LL → Prop} {P : Program} {w : World} {K : PySem.W.Frag} {mg : Str → Option Value} {base : Heap} {k : Nat} {N Nv Nw : List Str} {sc : Scope}
/-- [made(x) for x in xs], nothing that was changes -/
theorem Body.klMs (tp : Bool) (g : α → V) (v : β → V) (h : β → Addr × HO) (T : α → β → Prop) (bd : Body X P w K mg base k N Nv sc) (ns : Ns X N Nw) (own : List (Str × Nat)) (Nb No : List Str) (vis : ∀ x ∈ Nb, (relS scope sc).names.lookup x = some .local ∨ (relS scope sc).names.lookup x = some .cell ∨ (relS scope sc).names.lookup x = some .free) (pl : ∀ x ∈ Nb, (x == ("__debug__" : Str)) = false ∧ (x == ("__classdict__" : Str)) = false) (lc : ∀ x ∈ No, (relS scope sc).names.lookup x = some .local)
    (hk : ke X H0 M iter σ L fun w1 L1 => ∃ (a : Addr) (is : List α), w1 = .ref a ∧ At L1 a (sqO tp (is.map g)) ∧ is.length ≤ 1000 ∧
      (∀ x ∈ is, ∀ L0, Lift L1 L0 → ∀ B, Body B P w K mg base k N Nb (relS scope sc) → Ns B N No → kg B H0 M tg (g x) (wipe σ (own.map (·.2))) L0 fun σ2 L3 => wipe σ2 (own.map (·.2)) = wipe σ (own.map (·.2)) ∧
        ∀ B, Body B P w K mg base k N Nb (relS scope sc) → ke B H0 M elt σ2 L3 fun y L4 => ∃ (b : β), y = v b ∧ T x b ∧ H0 (h b).1 = none ∧ Sub (h b :: L0) L4) ∧
      ∀ D (ys : List β), H0 D = none → F2 T is ys → (∀ y ∈ ys, H0 (h y).1 = none) → Q (.ref D) ((D, .lst (ys.map v)) :: (L1 ++ ys.map h))) :
    kLc X H0 M elt tg iter [] scope own σ L Q := by
  refine Body.klM tp g v h T bd ns own Nb No vis pl lc fun H z => we_mono (hk H z) fun w1 H1 ⟨L1, z1, a, is, ev, ia, hl, st, en⟩ => ⟨L1, z1, a, is, fun L => L = L1, ev, rfl, fun L2 e => by rw [e]; exact ia, hl, fun x hx D acc L2 nD e ch B bB nB => ?_, fun D L2 ys nD e f2 nf => by rw [e]; exact en D ys nD f2 nf⟩
  subst e
  have key := st x hx ((D, acc) :: (L2 ++ ch)) (fun a o h => .there (.app_l h)) B bB nB
  refine fun H z pins s u I r => thn (key H z pins s u I r) fun _ s' ⟨σ', H', I', L3, z3, e4, q⟩ => ⟨σ', H', I', L3, z3, e4, fun B2 bB2 => ?_⟩
  exact fun H z => we_mono (q B2 bB2 H z) fun y H2 ⟨L4, z4, b, e1, e2, e3, e5⟩ => ⟨L4, z4, b, L2, _, e1, e2, e3, rfl, e5, .refl _⟩
theorem Body.lcMs (tp : Bool) (g : α → V) (v : β → V) (h : β → Addr × HO) (T : α → β → Prop) (bd : Body X P w K mg base k N Nv sc) (ns : Ns X N Nw) (own : List (Str × Nat)) (Nb No : List Str) (ok : BlkOk N sc scope own) (vis : ∀ x ∈ Nb, (relS scope sc).names.lookup x = some .local ∨ (relS scope sc).names.lookup x = some .cell ∨ (relS scope sc).names.lookup x = some .free) (pl : ∀ x ∈ Nb, (x == ("__debug__" : Str)) = false ∧ (x == ("__classdict__" : Str)) = false) (lc : ∀ x ∈ No, (relS scope sc).names.lookup x = some .local) (hs : ∀ x, foldedSetIterable iter X.env x = pure x)
    (hk : ke X H0 M iter σ L fun w1 L1 => ∃ (a : Addr) (is : List α), w1 = .ref a ∧ At L1 a (sqO tp (is.map g)) ∧ is.length ≤ 1000 ∧
      (∀ x ∈ is, ∀ L0, Lift L1 L0 → ∀ B, Body B P w K mg base k N Nb (relS scope sc) → Ns B N No → kg B H0 M tg (g x) (wipe σ (own.map (·.2))) L0 fun σ2 L3 => wipe σ2 (own.map (·.2)) = wipe σ (own.map (·.2)) ∧
        ∀ B, Body B P w K mg base k N Nb (relS scope sc) → ke B H0 M elt σ2 L3 fun y L4 => ∃ (b : β), y = v b ∧ T x b ∧ H0 (h b).1 = none ∧ Sub (h b :: L0) L4) ∧
      ∀ D (ys : List β), H0 D = none → F2 T is ys → (∀ y ∈ ys, H0 (h y).1 = none) → Q (.ref D) ((D, .lst (ys.map v)) :: (L1 ++ ys.map h))) :
    ke X H0 M (.ListComp elt [⟨tg, iter, [], 0⟩] scope pos) σ L Q :=
  ke_kl bd.calm (by rw [ns.eq]; exact ns.nd) (by rw [ns.eq, bd.scope]; exact ok) hs (Body.klMs tp g v h T bd ns own Nb No vis pl lc hk)
end
end Xi

/-! ## Num6 -/
/-! Routes changed: moved, multiplied, a leg more, the same again. -/
namespace Xi
abbrev moveN (s : Int) (x : T3) : T3 := (x.1, (x.2.1 + s) % x.1, x.2.2)
abbrev growN (m : Int) (x : T3) : T3 := (m * x.1, m * x.2.1, m * x.2.2)
theorem moveN_ok {s : Int} {x : T3} (h : x.ok) : (moveN s x).ok := ⟨h.e1, Int.emod_nonneg _ (by have := h.e1; omega), Int.emod_lt_of_pos _ h.e1, h.r1⟩
theorem growN_ok {m : Int} {x : T3} (hm : 0 < m) (h : x.ok) : (growN m x).ok :=
  ⟨Int.mul_pos hm h.e1, Int.mul_nonneg (by omega) h.t1, Int.mul_lt_mul_of_pos_left h.t2 hm, Int.mul_nonneg (by omega) h.r1⟩
theorem move_arr {s : Int} {x : T3} (p : Int) : (moveN s x).arr (p + s) = x.arr p + s := by
  show p + s + ((x.2.1 + s) % x.1 - (p + s)) % x.1 + x.2.2 = p + (x.2.1 - p) % x.1 + x.2.2 + s
  rw [Int.sub_emod, Int.emod_emod_of_dvd _ (Int.dvd_refl x.1), ← Int.sub_emod, show x.2.1 + s - (p + s) = x.2.1 - p by omega]
  omega
theorem grow_arr {m : Int} {x : T3} (hm : 0 < m) (p : Int) : (growN m x).arr (m * p) = m * x.arr p := by
  show m * p + (m * x.2.1 - m * p) % (m * x.1) + m * x.2.2 = m * (p + (x.2.1 - p) % x.1 + x.2.2)
  rw [← Int.mul_sub, Int.mul_emod_mul_of_pos _ _ hm, Int.mul_add, Int.mul_add]
theorem move_end {s : Int} : ∀ (ns : List T3) (p : Int), endT (ns.map (moveN s)) (p + s) = endT ns p + s
  | [], _ => rfl
  | x :: r, p => by
    show endT (r.map (moveN s)) ((moveN s x).arr (p + s)) = endT r (x.arr p) + s
    rw [move_arr]; exact move_end r _
theorem grow_end {m : Int} (hm : 0 < m) : ∀ (ns : List T3) (p : Int), endT (ns.map (growN m)) (m * p) = m * endT ns p
  | [], _ => rfl
  | x :: r, p => by
    show endT (r.map (growN m)) ((growN m x).arr (m * p)) = m * endT r (x.arr p)
    rw [grow_arr hm]; exact grow_end hm r _
theorem move_fit {s : Int} {ns : List T3} (f : FitsT ns) : FitsT (ns.map (moveN s)) := by
  unfold FitsT at f ⊢
  rw [List.pairwise_map]; exact f
theorem grow_fit {m : Int} {ns : List T3} (f : FitsT ns) : FitsT (ns.map (growN m)) := by
  unfold FitsT at f ⊢
  rw [List.pairwise_map]
  exact f.imp fun h => h.elim (fun h => .inl (Int.mul_dvd_mul_left m h)) fun h => .inr (Int.mul_dvd_mul_left m h)
theorem map_ok {g : T3 → T3} {ns : List T3} (h : ∀ x ∈ ns, x.ok) (k : ∀ x, T3.ok x → T3.ok (g x)) : ∀ x ∈ ns.map g, x.ok := fun x hx => by
  obtain ⟨y, hy, rfl⟩ := List.mem_map.mp hx
  exact k y (h y hy)
theorem RtOk.move {s : Int} {ns : List T3} (h : RtOk ns) : RtOk (ns.map (moveN s)) := ⟨map_ok h.ok fun _ => moveN_ok, move_fit h.fit, by rw [List.length_map]; exact h.n1, by rw [List.length_map]; exact h.n2⟩
theorem RtOk.grow {m : Int} {ns : List T3} (hm : 0 < m) (h : RtOk ns) : RtOk (ns.map (growN m)) := ⟨map_ok h.ok fun _ => growN_ok hm, grow_fit h.fit, by rw [List.length_map]; exact h.n1, by rw [List.length_map]; exact h.n2⟩
theorem move_join {s : Int} {ns : List T3} (h : RtOk ns) : moveN s (joinT ns) = joinT (ns.map (moveN s)) :=
  join_uniq h.move.ok h.move.fit (moveN_ok (join_ok h.ok h.fit).ok) fun p => by
    have a := move_arr (s := s) (x := joinT ns) (p - s)
    have b := move_end (s := s) ns (p - s)
    rw [Int.sub_add_cancel] at a b
    rw [a, b, join_arr h.ok h.fit]
theorem ediv_split (m p : Int) (hm : 0 < m) : ∃ q r, p = m * q + r ∧ 0 ≤ r ∧ r < m := ⟨p / m, p % m, (Int.mul_ediv_add_emod p m).symm, Int.emod_nonneg _ (by omega), Int.emod_lt_of_pos _ hm⟩
theorem grow_arr_up {m : Int} {x : T3} (hm : 0 < m) (h : x.ok) {q r : Int} (h0 : 0 < r) (h1 : r < m) : (growN m x).arr (m * q + r) = (growN m x).arr (m * (q + 1)) := by
  -- no departure between
  have e1 : 0 < m * x.1 := Int.mul_pos hm h.e1
  have a1 := dep_ge (t := m * x.2.1) (p := m * (q + 1)) e1
  have a2 := dep_lt (t := m * x.2.1) (p := m * (q + 1)) e1
  have a3 := dep_on (m * x.1) (m * x.2.1) (m * (q + 1))
  have b1 := dep_ge (t := m * x.2.1) (p := m * q + r) e1
  have b2 := dep_lt (t := m * x.2.1) (p := m * q + r) e1
  have b3 := dep_on (m * x.1) (m * x.2.1) (m * q + r)
  have em : m * (q + 1) = m * q + m := by rw [Int.mul_add, Int.mul_one]
  show dep (m * x.1) (m * x.2.1) (m * q + r) + _ = dep (m * x.1) (m * x.2.1) (m * (q + 1)) + _
  have key : dep (m * x.1) (m * x.2.1) (m * (q + 1)) = dep (m * x.1) (m * x.2.1) (m * q + r) := by
    refine dep_uniq b3 ?_ ?_
    · -- a multiple of m
      obtain ⟨z, hz⟩ := b3
      have ez : dep (m * x.1) (m * x.2.1) (m * q + r) = m * (x.1 * z + x.2.1) := by
        rw [Int.mul_add, ← Int.mul_assoc]; omega
      rw [ez] at b1 ⊢
      have : q < x.1 * z + x.2.1 := by
        refine Int.lt_of_not_ge fun k => ?_
        have := Int.mul_le_mul_of_nonneg_left k (show (0:Int) ≤ m by omega)
        omega
      exact Int.mul_le_mul_of_nonneg_left (by omega) (by omega)
    · omega
  rw [key]
theorem grow_end_up {m : Int} (hm : 0 < m) {ns : List T3} (h : RtOk ns) {q r : Int} (h0 : 0 < r) (h1 : r < m) : endT (ns.map (growN m)) (m * q + r) = endT (ns.map (growN m)) (m * (q + 1)) := by
  cases ns with
  | nil => exact absurd rfl h.ne
  | cons x t =>
    show endT (t.map (growN m)) ((growN m x).arr (m * q + r)) = endT (t.map (growN m)) ((growN m x).arr (m * (q + 1)))
    rw [grow_arr_up hm (h.ok x List.mem_cons_self) h0 h1]
theorem grow_join {m : Int} (hm : 0 < m) {ns : List T3} (h : RtOk ns) : growN m (joinT ns) = joinT (ns.map (growN m)) := by
  have jo := (join_ok h.ok h.fit).ok
  refine join_uniq (h.grow hm).ok (h.grow hm).fit (growN_ok hm jo) fun p => ?_
  obtain ⟨q, r, rfl, h0, h1⟩ := ediv_split m p hm
  by_cases z : r = 0
  · subst z
    rw [Int.add_zero, grow_arr hm, grow_end hm, join_arr h.ok h.fit]
  · rw [grow_arr_up hm jo (by omega) h1, grow_end_up hm h (by omega) h1, grow_arr hm, grow_end hm, join_arr h.ok h.fit]
/-- a stop at the arrivals -/
theorem stop_arr {x : T3} (h : x.ok) (p : Int) : T3.arr (x.1, (x.2.1 + x.2.2) % x.1, 0) (x.arr p) = x.arr p := by
  show dep x.1 ((x.2.1 + x.2.2) % x.1) (x.arr p) + 0 = x.arr p
  have d := dep_on x.1 x.2.1 p
  have e : x.1 ∣ (x.arr p - (x.2.1 + x.2.2) % x.1) := by
    have e2 := emod_dvd_sub (x.2.1 + x.2.2) x.1
    have := Int.dvd_add d e2
    rw [show dep x.1 x.2.1 p - x.2.1 + (x.2.1 + x.2.2 - (x.2.1 + x.2.2) % x.1) = x.arr p - (x.2.1 + x.2.2) % x.1 by show _ = dep x.1 x.2.1 p + x.2.2 - _; omega] at this
    exact this
  rw [dep_of_dvd e, Int.add_zero]
theorem end_one (x : T3) (p : Int) : endT [x] p = x.arr p := rfl
theorem end_le {A : Int} : ∀ {ns : List T3}, (∀ x ∈ ns, x.ok ∧ x.1 + x.2.2 ≤ A) → ∀ p, endT ns p ≤ p + ns.length * A
  | [], _, p => by show p ≤ p + ((0 : Nat) : Int) * A; omega
  | x :: r, h, p => by
    obtain ⟨h1, h2⟩ := h x List.mem_cons_self
    have ih := end_le (ns := r) (fun y hy => h y (List.mem_cons_of_mem _ hy)) (x.arr p)
    have a : dep x.1 x.2.1 p < p + x.1 := dep_lt h1.e1
    have b : x.arr p = dep x.1 x.2.1 p + x.2.2 := rfl
    have e : (((x :: r).length : Nat) : Int) * A = (r.length : Int) * A + A := by rw [List.length_cons, Int.natCast_add, Int.add_mul]; omega
    show endT r (x.arr p) ≤ _
    omega
/-- the ride of the line of a route -/
theorem join_ride {A : Int} {ns : List T3} (h : RtOk ns) (hA : ∀ x ∈ ns, x.1 + x.2.2 ≤ A) : (joinT ns).2.2 ≤ ns.length * A := by
  have a := join_arr h.ok h.fit (joinT ns).2.1
  have b := end_le (fun x hx => ⟨h.ok x hx, hA x hx⟩) (joinT ns).2.1
  have c : (joinT ns).arr (joinT ns).2.1 = (joinT ns).2.1 + (joinT ns).2.2 := by show dep _ _ _ + _ = _; rw [dep_self]
  omega
/-- a leg more -/
theorem end_more {xs ys : List T3} {z : T3} (hy : ∀ x ∈ ys, x.ok) (hz : z.ok) (p : Int) : endT (xs ++ ys) p ≤ endT (xs ++ z :: ys) p := by
  rw [endT_app, endT_app]
  exact end_mono hy (arr_self hz _)
theorem later_join {ns ms : List T3} (h : RtOk ns) (k : RtOk ms) (ft : FitI (joinT ns).1 (joinT ms).1) (l : ∀ p, endT ns p ≤ endT ms p) : laterB (joinT ns).1 (joinT ns).2.1 (joinT ns).2.2 (joinT ms).1 (joinT ms).2.1 (joinT ms).2.2 = true :=
  (later_iff (join_ok h.ok h.fit).ok.e1 (join_ok k.ok k.fit).ok.e1 ft).mpr fun p => by
    have a := join_arr h.ok h.fit p
    have b := join_arr k.ok k.fit p
    have := l p
    show (joinT ns).arr p ≤ (joinT ms).arr p
    omega
theorem RtOk.rep3 {ns : List T3} (h : RtOk ns) (l : ns.length ≤ 20) : RtOk (ns ++ ns) ∧ RtOk (ns ++ ns ++ ns) := by
  have two : ∀ ms : List T3, (∀ x ∈ ms, x ∈ ns) → 1 ≤ ms.length → ms.length ≤ 60 → RtOk ms := fun ms k a b => h.mem (fun x hx => ⟨x, k x hx, rfl⟩) (fun x hx => h.ok x (k x hx)) a b
  have n1 := h.n1
  refine ⟨two _ (fun x hx => (List.mem_append.mp hx).elim id id) (by rw [List.length_append]; omega) (by rw [List.length_append]; omega), two _ (fun x hx => (List.mem_append.mp hx).elim (fun hx => (List.mem_append.mp hx).elim id id) id) (by rw [List.length_append, List.length_append]; omega) (by rw [List.length_append, List.length_append]; omega)⟩
theorem rep3_join {ns : List T3} (h : RtOk ns) (l : ns.length ≤ 20) : ((joinT ns).1, (joinT ns).2.1, mulR (joinT ns).1 (joinT ns).2.2 3) = joinT (ns ++ ns ++ ns) := by
  have j := (join_ok h.ok h.fit).ok
  have k := (h.rep3 l).2
  refine join_uniq k.ok k.fit ⟨j.e1, j.t1, j.t2, mulR_rng j.e1 j.r1 (by decide)⟩ fun p => ?_
  rw [endT_app, endT_app, ← join_arr h.ok h.fit, ← join_arr h.ok h.fit, ← join_arr h.ok h.fit]
  have a := arr_mulR (t := (joinT ns).2.1) (r := (joinT ns).2.2) (n := 2) (p := p) j.e1
  have b := arr_mulR (t := (joinT ns).2.1) (r := (joinT ns).2.2) (n := 1) (p := p) j.e1
  rw [mulR_one] at b
  show Xi.arr _ _ (mulR (joinT ns).1 (joinT ns).2.2 (2 + 1)) p = _
  rw [a, show (2 : Int) = 1 + 1 from rfl, b]
end Xi

/-! ## Ch3 -/
/-! a < b < c < d. -/
namespace Xi
open PySem PySem.Spec PyProof.Rows L2
section
variable {X : Cx} {H0 : Hp} {M : Addr → Prop} {a b c d : Expr} {σ : L2.St} {L : LL} {QT : Bool → LL → Prop} {pos : Pos}
theorem kt_chain3 {op op' op2 : CmpOp} (hm : lastMarks [op, op', op2] [b, c, d] = false)
    (h : ke X H0 M a σ L fun x L1 => ke X H0 M b σ L1 fun y L2 => ro X H0 M (compareOp op) x y L2 fun t L3 => Pick t (ke X H0 M c σ L3 fun w L4 => ro X H0 M (compareOp op') y w L4 fun t2 L5 => Pick t2 (ke X H0 M d σ L5 fun v L6 => ro X H0 M (compareOp op2) w v L6 fun t3 L7 => ∃ k, t3 = .bl k ∧ QT k L7) (QT false L5)) (QT false L3)) : kt X H0 M (.Compare a [op, op', op2] [b, c, d] pos) σ L QT := fun H z pins s I => by
  refine isTrue_chain (thn (h H z pins s I) fun v s1 ⟨x, H1, I1, r1, L1, z1, q1⟩ => test_link (thn (q1 H1 z1 pins s1 I1) fun u s2 ⟨y, H2, I2, r2, L2, z2, q2⟩ =>
    thn (q2 H2 z2 pins s2 σ v u I2 r1 r2) fun e s3 ⟨t, H3, I3, r3, L3, z3, k, ek, kt, kf⟩ => ?_)) hm
  subst ek
  cases r3
  refine wpAny_truthy_bool ?_
  cases k with
  | false => exact ite_ff ⟨H3, I3, L3, z3, kf rfl⟩
  | true =>
    refine ite_tt (test_link (thn (kt rfl H3 z3 pins s3 I3) fun w' s4 ⟨w, H4, I4, r4, L4, z4, q4⟩ => thn (q4 H4 z4 pins s4 σ u w' I4 r2 r4) fun e2 s5 ⟨t2, H5, I5, r5, L5, z5, k2, ek2, kt2, kf2⟩ => ?_))
    subst ek2
    cases r5
    refine wpAny_truthy_bool ?_
    cases k2 with
    | false => exact ite_ff ⟨H5, I5, L5, z5, kf2 rfl⟩
    | true =>
      refine ite_tt (test_last (thn (kt2 rfl H5 z5 pins s5 I5) fun v' s6 ⟨v2, H6, I6, r6, L6, z6, q6⟩ => thn (q6 H6 z6 pins s6 σ w' v' I6 r4 r6) fun e3 s7 ⟨t3, H7, I7, r7, L7, z7, k3, ek3, q7⟩ => ?_))
      subst ek3
      cases r7
      exact wpAny_truthy_bool ⟨H7, I7, L7, z7, q7⟩
end
theorem cut_d {xs : List V} {k : Nat} {v : Int} (e : v = (k : Int)) (hk : k ≤ xs.length) : cutV xs (some v) none = xs.drop k := by
  subst e
  unfold cutV
  rw [HT.sIx_nat, show min k xs.length = k by omega]
  show (xs.drop k).take (xs.length - k) = _
  exact List.take_of_length_le (by rw [List.length_drop]; exact Nat.le_refl _)
theorem cut_t {xs : List V} {k : Nat} {v : Int} (e : v = (k : Int)) : cutV xs none (some v) = xs.take k := by
  subst e
  unfold cutV
  rw [HT.sIx_nat]
  show (xs.drop 0).take (min k xs.length - 0) = _
  rw [List.drop_zero, Nat.sub_zero]
  by_cases h : k ≤ xs.length
  · rw [show min k xs.length = k by omega]
  · rw [show min k xs.length = xs.length by omega, List.take_length, List.take_of_length_le (by omega)]
theorem cut_m {xs : List V} {i j : Nat} {v w : Int} (e : v = (i : Int)) (e2 : w = (j : Int)) (h1 : i ≤ j) (h2 : j ≤ xs.length) : cutV xs (some v) (some w) = (xs.take j).drop i := by
  subst e e2
  unfold cutV
  rw [HT.sIx_nat, HT.sIx_nat, show min i xs.length = i by omega, show min j xs.length = j by omega, List.drop_take]
section
variable {K : PySem.W.Frag} {H0 : Hp} {M : Addr → Prop} {L : LL} {Q : V → LL → Prop} {p : Addr} {xs ys : List V} {l u : Option Int}
theorem sl_eq (ia : At L p (.lst xs)) (e : cutV xs l u = ys) (k : New H0 (.lst ys) L Q) : ∃ p' xs', V.ref p = .ref p' ∧ (At L p' (.lst xs') ∨ (SqL K H0 p' xs' ∧ ¬ M p')) ∧ New H0 (.lst (cutV xs' l u)) L Q := ⟨p, xs, rfl, .inl ia, by rw [e]; exact k⟩
end
theorem drop_of_cons {α : Type} {xs : List α} {k : Nat} {x : α} (h : xs[k]? = some x) : xs.drop k = x :: xs.drop (k + 1) := by
  obtain ⟨hk, e⟩ := List.getElem?_eq_some_iff.mp h
  rw [List.drop_eq_getElem_cons hk, e]
theorem atI_nat {α : Type} {xs : List α} {k : Nat} {v : Int} {x : α} (e : v = (k : Int)) (h : xs[k]? = some x) : atI xs v = some x := by
  subst e
  obtain ⟨hk, _⟩ := List.getElem?_eq_some_iff.mp h
  unfold atI ixN
  rw [if_pos (by omega), if_pos (by omega)]
  simpa using h
end Xi

/-! ## Pw -/
/-! third powers of wide numbers -/
namespace Xi
open PySem PySem.Spec PyProof.Rows L2
variable {X : Cx}
theorem op_powW : OpR X (binaryOp .Pow) (rI (fun i j => 0 ≤ j ∧ (Builtin.Int.intBits i : Int) * j ≤ 2 ^ 27) fun i j => .int (i ^ j.toNat)) := opI fun _ _ _ _ _ _ _ hc q => pow_int hc.1 hc.2 q
theorem ro_powW3 {H0 : Hp} {M : Addr → Prop} {L : LL} {Q : V → LL → Prop} {i : Int} {n : Nat} (hb : i.natAbs < 2 ^ n) (h9 : n ≤ 9000) (h : Q (.int (i * i * i)) L) : ro X H0 M (binaryOp .Pow) (.int i) (.int 3) L Q :=
  ro_of op_powW fun _ z => ⟨i, 3, rfl, rfl, ⟨by decide, by
    have := intBits_le hb
    show (Builtin.Int.intBits i : Int) * 3 ≤ 134217728
    omega⟩, L, z, by
    show Q (.int (i ^ 3)) L
    rw [show i ^ 3 = i * i * i by rw [Int.pow_succ, Int.pow_succ, Int.pow_succ, Int.pow_zero, Int.one_mul]]
    exact h⟩
theorem inV_ints (i : Int) : ∀ is : List Int, inV (.int i) (is.map V.int) = decide (i ∈ is)
  | [] => rfl
  | j :: r => by
    have ih := inV_ints i r
    show ((j == i) || inV (.int i) (r.map V.int)) = _
    rw [ih, Bool.eq_iff_iff]
    simp only [Bool.or_eq_true, beq_iff_eq, decide_eq_true_eq, List.mem_cons]
    exact ⟨fun h => h.elim (fun e => .inl e.symm) .inr, fun h => h.elim (fun e => .inl e.symm) .inr⟩
theorem ro_inL {H0 : Hp} {M : Addr → Prop} {L : LL} {Q : V → LL → Prop} {i : Int} {is : List Int} {p : Addr} (ia : At L p (.lst (is.map V.int))) (h : Q (.bl (decide (i ∈ is))) L) : ro X H0 M (compareOp .In) (.int i) (.ref p) L Q :=
  ro_of op_in_seq fun H z => ⟨p, is.map V.int, rfl, .inl (z.sq ia), rfl, flat_ints is, L, z, by
    show Q (.bl (inV (.int i) (is.map V.int))) L
    rw [inV_ints]
    exact h⟩
end Xi

/-! ## Sets -/
/-! sorted(set(xs)), xs a list of ints. -/
namespace Xi
open PySem PySem.Spec PyProof.Rows L2
abbrev noneS (w : World) : Obj := { cls := .type "set", dict := none, data := .set #[] 0 (.fresh 0 0 (!w.params.followText "set-order")) }
section
variable {P : Program} {w : World} {A : Around} {E : Value → Shared → Prop} {s : Shared} {l : Addr} {xs : Array Value} {ns : List Int}
/-- what the filling leaves behind -/
abbrev Filled (w : World) (s : Shared) (ns : List Int) (h2 : Heap) (c : Nat) : Prop := SetR w h2 s.heap.objs.size (fun j => decide (j ∈ ns)) c ∧ c ≤ ns.length ∧ ∀ b o, s.heap.get? b = some o → h2.get? b = some o
theorem set_fill {Q : PySem.Fin → Shared → Prop} (hh : A.handled = none) (hl : s.heap.IsList l xs) (hi : IntsAre xs.toList ns) (hb : ns.length + 1 < scanBound)
    (k : ∀ h2 tk c, Filled w s ns h2 c → Q (.done (.ret .none)) { s with heap := h2, toks := tk }) :
    wpAny (model P w) A.in1 (Builtin.«set.__init__» ⟨[.ref s.heap.objs.size, .ref l], []⟩) Q E { s with heap := s.heap.push (noneS w) } := by
  have hz : xs.size = ns.length := by have q := IntsAre.length hi; rwa [Array.length_toList] at q
  obtain ⟨o, ho, hc, m, hd⟩ := hl
  obtain ⟨oc, od, oa, os⟩ := o
  simp only at hc hd
  subst hc hd
  have lt := Heap.lt_size ho
  have ho2 : (s.heap.push (noneS w)).get? l = some _ := Heap.get?_push_of_some _ ho
  have hl2 : (s.heap.push (noneS w)).IsList l xs := ⟨_, ho2, rfl, m, rfl⟩
  have hsls := F.sub_list_set
  have hslf := F.sub_list_frozenset
  have nd : (Value.type "list" == Value.type "dict") = false := by decide
  have hS : (s.heap.push (noneS w)).get? s.heap.objs.size = some (noneS w) := Heap.get?_push_size _ rfl
  unfold Builtin.«set.__init__» noKeywords Builtin.Frozenset.updateFrom
  generalize hPI : pyIter = PI
  wp_walk
  subst hPI
  refine wpAny_pyIter_list hl2 (wpAny_bind (wpAny_runValue ?_))
  have dl : l ≠ (s.heap.push (noneS w)).objs.size := by rw [Heap.size_push]; exact Nat.ne_of_lt (Nat.lt_succ_of_lt lt)
  have ds : s.heap.objs.size ∉ [(s.heap.push (noneS w)).objs.size, l] := by
    rw [Heap.size_push]
    simp only [List.mem_cons, List.mem_singleton, List.not_mem_nil, or_false, not_or]
    exact ⟨Nat.ne_of_lt (Nat.lt_succ_self _), Nat.ne_of_gt lt⟩
  have vals : ∀ (i : Nat) (v : Value), xs[i]? = some v → ∃ k t, ns[i]? = some k ∧ v = .int k t := fun i v hv => by
    have li : i < ns.length := by rw [← hz]; exact (Array.getElem?_eq_some_iff.mp hv).1
    obtain ⟨t, e⟩ := PyProof.Rows.IntsAre.int_at hi i v (by rw [Array.getElem?_toList]; exact hv)
    exact ⟨ns[i], t, List.getElem?_eq_getElem li, by rw [e, List.getD_eq_getElem?_getD, List.getElem?_eq_getElem li]; rfl⟩
  refine set_update_ints ((Walks.list (by simp [hh]) _ l dl xs).toS) s.heap.objs.size ds ns hz hb vals xs.size 0 _ (by omega) (Nat.zero_le _) ⟨⟨_, Heap.get?_push_size _ rfl, rfl, rfl⟩, hl2.push _⟩ ⟨0, Nat.le_refl 0, setR_new_at (Heap.get?_push_of_some _ hS)⟩ fun s2 c hm hc2 R => ?_
  obtain ⟨h2, g2, d2, t2, o2⟩ := s2
  obtain rfl : g2 = s.gens := hm.gens
  obtain rfl : d2 = s.drawn := hm.drawn
  obtain rfl : o2 = s.os := hm.os
  refine wpAny_pure (wpAny_pure (k h2 t2 c ⟨R, by rw [← hz]; exact hc2, fun b o e => ?_⟩))
  have b0 := Heap.lt_size e
  refine hm.heap b o ?_ (Heap.get?_push_of_some _ (Heap.get?_push_of_some _ e))
  rw [Heap.size_push]
  simp only [List.mem_cons, List.mem_singleton, List.not_mem_nil, or_false, not_or]
  exact ⟨Nat.ne_of_lt b0, Nat.ne_of_lt (Nat.lt_succ_of_lt b0)⟩
theorem set_make {Q : Value → Shared → Prop} (hh : A.handled = none) (hl : s.heap.IsList l xs) (hi : IntsAre xs.toList ns) (hb : ns.length + 1 < scanBound)
    (k : ∀ h2 tk c, Filled w s ns h2 c → Q (.ref s.heap.objs.size) { s with heap := h2, toks := tk }) : wpAny (model P w) A (call (.type "set") [.ref l]) Q E s := by
  have m1 := F.called_set.mro
  have m2 := F.called_set.made
  have m3 := F.called_set.sub
  have m4 := F.called_set.notType
  have m5 := F.called_set.canCreate
  have m6 := F.typeCall_set_1 (.ref l)
  obtain ⟨c0, tl, m1⟩ := m1
  refine wpAny_call (codeAny_of_tree ?_)
  show wpAny (model P w) A.in1 (callAny (.type "set") _) _ _ s
  refine wpAny_pure ⟨Code.quiet_builtin _ (by decide +kernel), codeAny_builtin F.entry_type_call ?_⟩
  rw [Around.under_plain (weight_type_call_type "set" [.ref l] []) rfl]
  repeat (any_goals (first | assumption | wp_step))
  refine codeAny_mono (code_set_led1 (.ref l) (E := E) (Q₁ := fun v s1 => v = .ref s.heap.objs.size ∧ s1 = { s with heap := s.heap.push (noneS w) }) ⟨rfl, rfl⟩) fun r1 s1 h1 => ?_
  match r1, h1 with
  | .error _, h1 => exact h1
  | .ok (.ret v), h1 =>
    obtain ⟨rfl, rfl⟩ := h1
    have hT : Shared.TypeIs { s with heap := s.heap.push (noneS w) } (.ref s.heap.objs.size) "set" := ⟨_, Heap.get?_push_size _ rfl, rfl⟩
    have i1 := F.called_set.init.lookup
    have i2 := F.called_set.init.bind (.ref s.heap.objs.size)
    repeat (any_goals (first | assumption | wp_step))
    refine codeAny_mono (codeAny_call_builtin (R := wants (fun v s2 => v = .none ∧ ∃ h2 tk c, s2 = { s with heap := h2, toks := tk } ∧ Filled w s ns h2 c) E) F.called_set.init.plain F.entry_set_init (check_set_init_1 hT ?_)) fun r2 s2 e2 => ?_
    · refine set_fill (by simp [hh]) hl hi hb fun h2 tk c f => ?_
      exact ⟨rfl, h2, tk, c, rfl, f⟩
    · match r2, e2 with
      | .error _, e2 => exact e2
      | .ok (.ret _), e2 =>
        obtain ⟨rfl, h2, tk, c, rfl, f⟩ := e2
        repeat (any_goals (first | assumption | wp_step))
        exact k _ _ _ f
end
section
variable {X : Cx}
/-- set(xs), xs a list of ints -/
def rSetI (K : PySem.W.Frag) (w : World) : List V → Hp → VK → Prop := fun vs H Q => ∃ (l : Addr) (ns : List Int), vs = [.ref l] ∧ SqL K H l (ns.map V.int) ∧ ns.length ≤ 60 ∧ ∀ q c, H q = none → c ≤ ns.length → Q (.ref q) (upd H q (SetO w q (fun j => decide (j ∈ ns)) c))
theorem cr_setI (hc : X.calm = true) : CallR X (.type "set") (rSetI X.K X.w) := by
  intro pins s σ H vs us Q I r h
  obtain ⟨l, ns, rfl, hl, h60, q⟩ := h
  rw [Vals.ref1 r]
  obtain ⟨its, rv, pl, hz⟩ := I.list hl
  refine set_make (I.ok.hd hc) pl.isList (by simpa using ints_of_vals rv) (by unfold scanBound; omega) fun h2 tk c f => ?_
  exact ⟨.ref _, _, I.laid (t' := tk) f.2.2 (Nat.le_refl _) (setO_new f.1), rfl, q _ c (I.hok.fresh (Nat.le_refl _)) f.2.1⟩
theorem rc_setI {H0 : Hp} {M : Addr → Prop} {L : LL} {Q : V → LL → Prop} {l : Addr} {ns : List Int} (hc : X.calm = true) (ia : At L l (.lst (ns.map V.int))) (h : ns.length ≤ 60) (k : ∀ q c, H0 q = none → c ≤ ns.length → Q (.ref q) ((q, SetO X.w q (fun j => decide (j ∈ ns)) c) :: L)) : rc X H0 M (.type "set") [.ref l] L Q :=
  rc_of (cr_setI hc) fun H z => ⟨l, ns, rfl, z.sq ia, h, fun q c n hc => ⟨_, z.new n, k q c (z.fresh n) hc⟩⟩
theorem rc_sortSet {H0 : Hp} {M : Addr → Prop} {L : LL} {Q : V → LL → Prop} {a : Addr} {ns : List Int} {c : Nat} (hc : X.calm = true) (ia : At L a (SetO X.w a (fun j => decide (j ∈ ns)) c)) (h : c < 64) (k : ∀ (ms : List Int) p, ms.Pairwise (· < ·) → (∀ j : Int, j ∈ ms ↔ j ∈ ns) → H0 p = none → Q (.ref p) ((p, .lst (ms.map V.int)) :: L)) : rc X H0 M (.builtin "sorted") [.ref a] L Q :=
  rc_of (cr_sortedSet hc) fun H z => ⟨a, _, c, rfl, z.get ia, h, fun ms p pw hm hl n => ⟨_, z.new n, k ms p pw (fun j => (hm j).trans decide_eq_true_iff) (z.fresh n)⟩⟩
theorem rc_reprI {H0 : Hp} {M : Addr → Prop} {L : LL} {Q : V → LL → Prop} {i : Int} (h : i.natAbs.log2 < 1920) (k : Q (.str (toString i)) L) : rc X H0 M (.builtin "repr") [.int i] L Q :=
  rc_of SkE.call_repr_int fun H z => ⟨i, rfl, h, L, z, k⟩
end
end Xi

/-! ## Dk -/
/-! Defs of the module called by keywords; wide sets; list(range(a, b)); comprehensions over a range. -/
namespace Xi
open PySem PySem.Spec PyProof.Rows L2
def gK1 {α : Type} : List α → List α | [a] => [a] | _ => []
def gI2 {α : Type} : List α → List α | [a, b] => [a, b] | _ => []
def gR2 {α : Type} : List α → List α | [a, b] => [b, a] | _ => []
def gR3 {α : Type} : List α → List α | [a, b, c] => [c, b, a] | _ => []
def gC3 {α : Type} : List α → List α | [a, b, c] => [b, c, a] | _ => []
/-- a def of the module called x whose arguments are told by name, g puts them in its order -/
structure DefK (P : Program) (w : World) (K : PySem.W.Frag) (mg : Str → Option Value) (base : Heap) (k : Nat) (x : Str) (ks : List Str) (g : (α : Type) → List α → List α) (sp : Sp) : Prop where
  ex : ∃ f fd ps, Fk P w K mg base CX0 k f fd ps sp ∧ mg x = some (.ref f) ∧ PySem.W.keepIn K (.ref f) = true ∧ ∀ (s : Shared) (ws : List Value), ws.length = ks.length → BindsTo s fd ⟨[], ks.zip ws⟩ (ps.zip (g Value ws))
theorem FunM.okK {P : Program} {w : World} {K : PySem.W.Frag} {mg : Str → Option Value} {base : Heap} {k : Nat} {x : Str} {st : Stmt} {sp : Sp} {ps ks : List Str} {g : (α : Type) → List α → List α} (F : FunM K mg x st)
    (b : ∀ f fd, Fun K x x st f fd → ∀ (s : Shared) (ws : List Value), ws.length = ks.length → BindsTo s fd ⟨[], ks.zip ws⟩ (ps.zip (g Value ws))) (h : ∀ f fd, Fun K x x st f fd → Fk P w K mg base CX0 k f fd ps sp) : DefK P w K mg base k x ks g sp := by
  obtain ⟨f, fd, F, hm⟩ := F.ex
  exact ⟨f, fd, ps, h f fd F, hm, F.kp, b f fd F⟩
section
variable {X : Cx} {k j : Nat} {sp : Sp} {x : Str} {p pos : Pos} {kws : List Keyword} {ks : List Str} {g : (α : Type) → List α → List α} {H0 : Hp} {M : Addr → Prop} {L : LL} {σ : L2.St} {Q : V → LL → Prop}
variable {P : Program} {w : World} {K : PySem.W.Frag} {mg : Str → Option Value} {base : Heap} {N Nv : List Str} {sc : Scope}
theorem Body.callDK (bd : Body X P w K mg base k N Nv sc) (D : DefK P w K mg base j x ks g sp) (hj : Nat.ble j k = true) (hg : sc.names.lookup x = some .globalImplicit)
    (hall : (backToKw pos (keywordEach kws X.env)).all (·.1.isSome) = true) (hks : (backToKw pos (keywordEach kws X.env)).filterMap (·.1) = ks) (hpl : ((backTo pos (starEach [] X.env)).any (·.1) || (backToKw pos (keywordEach kws X.env)).any (·.1.isNone)) = false)
    (h : kk X H0 M kws σ L fun zs L1 => zs.length = ks.length ∧ (∀ ws : List Value, Vals zs ws → Vals (g V zs) (g Value ws)) ∧ rs H0 M sp EE (g V zs) L1 Q) (hdb : (x == ("__debug__" : Str)) = false) : ke X H0 M (.Call (.Name x p) [] kws pos) σ L Q := fun H z pins s I => by
  obtain ⟨f, fd, ps, F, hm, hk, hb⟩ := D.ex
  rw [← bd.prog, ← bd.w, ← bd.K, ← bd.mg, ← bd.base] at F
  rw [← bd.mg] at hm
  rw [← bd.K] at hk
  have hr := bd.rm (Nat.le_of_ble_eq_true hj)
  refine wpAny_Call_Name_kw (ld_glob I (bd.gl hg) hm ?_ hdb)
  refine PySem.W.callWith_KW0 (first := []) (h₀ := X.base) I.ok.mod.kin hk hall (thn (h H z pos pins s I) fun ws s2 ⟨zs, H2, I2, r, L2, z2, lz, rz, q2⟩ => ⟨I2.kIn, ?_⟩) hpl
  rw [hks]
  have q3 := q2 H2 z2
  have lw : ws.length = ks.length := r.length.symm.trans lz
  refine wpAny_call (codeAny_mono (F.go X.A X.stack s2 H2 ⟨[], ks.zip ws⟩ (g Value ws) (g V zs) _ EE hr bd.gd I2.env0 (hb s2 ws lw) (rz ws r) q3) fun res s3 hq => ?_)
  rcases res with er | fl
  · exact px0 (E := EE) pins σ H2 s2 er s3 I2 hq
  · cases fl with
    | ret u => exact I2.after hq
    | next => exact hq.elim
    | brk => exact hq.elim
    | cont => exact hq.elim
theorem vk1 {a : V} {ws : List Value} (h : Vals [a] ws) : Vals (gK1 [a]) (gK1 ws) := by
  cases h with | cons r t => cases t; exact .cons r .nil
theorem vk2 {a b : V} {ws : List Value} (h : Vals [a, b] ws) : Vals (gR2 [a, b]) (gR2 ws) := by
  cases h with | cons r t => cases t with | cons r2 t => cases t; exact .cons r2 (.cons r .nil)
theorem vk3 {a b c : V} {ws : List Value} (h : Vals [a, b, c] ws) : Vals (gR3 [a, b, c]) (gR3 ws) := by
  cases h with | cons r t => cases t with | cons r2 t => cases t with | cons r3 t => cases t; exact .cons r3 (.cons r2 (.cons r .nil))
theorem vkc {a b c : V} {ws : List Value} (h : Vals [a, b, c] ws) : Vals (gC3 [a, b, c]) (gC3 ws) := by
  cases h with | cons r t => cases t with | cons r2 t => cases t with | cons r3 t => cases t; exact .cons r2 (.cons r3 (.cons r .nil))
theorem Body.callK1 {k1 : Str} (bd : Body X P w K mg base k N Nv sc) (D : DefK P w K mg base j x [k1] @gK1 sp) (hj : Nat.ble j k = true) (hg : sc.names.lookup x = some .globalImplicit)
    (hall : (backToKw pos (keywordEach kws X.env)).all (·.1.isSome) = true) (hks : (backToKw pos (keywordEach kws X.env)).filterMap (·.1) = [k1]) (hpl : ((backTo pos (starEach [] X.env)).any (·.1) || (backToKw pos (keywordEach kws X.env)).any (·.1.isNone)) = false)
    (h : kk X H0 M kws σ L fun zs L1 => ∃ a, zs = [a] ∧ rs H0 M sp EE [a] L1 Q) (hdb : (x == ("__debug__" : Str)) = false) : ke X H0 M (.Call (.Name x p) [] kws pos) σ L Q :=
  bd.callDK D hj hg hall hks hpl (fun H z => wk_mono (h H z) fun zs H2 ⟨L2, z2, a, e, q⟩ => ⟨L2, z2, by subst e; exact ⟨rfl, fun ws r => vk1 r, q⟩⟩) hdb
theorem Body.callK2 {k1 k2 : Str} (bd : Body X P w K mg base k N Nv sc) (D : DefK P w K mg base j x [k1, k2] @gR2 sp) (hj : Nat.ble j k = true) (hg : sc.names.lookup x = some .globalImplicit)
    (hall : (backToKw pos (keywordEach kws X.env)).all (·.1.isSome) = true) (hks : (backToKw pos (keywordEach kws X.env)).filterMap (·.1) = [k1, k2]) (hpl : ((backTo pos (starEach [] X.env)).any (·.1) || (backToKw pos (keywordEach kws X.env)).any (·.1.isNone)) = false)
    (h : kk X H0 M kws σ L fun zs L1 => ∃ a b, zs = [a, b] ∧ rs H0 M sp EE [b, a] L1 Q) (hdb : (x == ("__debug__" : Str)) = false) : ke X H0 M (.Call (.Name x p) [] kws pos) σ L Q :=
  bd.callDK D hj hg hall hks hpl (fun H z => wk_mono (h H z) fun zs H2 ⟨L2, z2, a, b, e, q⟩ => ⟨L2, z2, by subst e; exact ⟨rfl, fun ws r => vk2 r, q⟩⟩) hdb
theorem Body.callK3 {k1 k2 k3 : Str} (bd : Body X P w K mg base k N Nv sc) (D : DefK P w K mg base j x [k1, k2, k3] @gR3 sp) (hj : Nat.ble j k = true) (hg : sc.names.lookup x = some .globalImplicit)
    (hall : (backToKw pos (keywordEach kws X.env)).all (·.1.isSome) = true) (hks : (backToKw pos (keywordEach kws X.env)).filterMap (·.1) = [k1, k2, k3]) (hpl : ((backTo pos (starEach [] X.env)).any (·.1) || (backToKw pos (keywordEach kws X.env)).any (·.1.isNone)) = false)
    (h : kk X H0 M kws σ L fun zs L1 => ∃ a b c, zs = [a, b, c] ∧ rs H0 M sp EE [c, b, a] L1 Q) (hdb : (x == ("__debug__" : Str)) = false) : ke X H0 M (.Call (.Name x p) [] kws pos) σ L Q :=
  bd.callDK D hj hg hall hks hpl (fun H z => wk_mono (h H z) fun zs H2 ⟨L2, z2, a, b, c, e, q⟩ => ⟨L2, z2, by subst e; exact ⟨rfl, fun ws r => vk3 r, q⟩⟩) hdb
theorem Body.callKc {k1 k2 k3 : Str} (bd : Body X P w K mg base k N Nv sc) (D : DefK P w K mg base j x [k1, k2, k3] @gC3 sp) (hj : Nat.ble j k = true) (hg : sc.names.lookup x = some .globalImplicit)
    (hall : (backToKw pos (keywordEach kws X.env)).all (·.1.isSome) = true) (hks : (backToKw pos (keywordEach kws X.env)).filterMap (·.1) = [k1, k2, k3]) (hpl : ((backTo pos (starEach [] X.env)).any (·.1) || (backToKw pos (keywordEach kws X.env)).any (·.1.isNone)) = false)
    (h : kk X H0 M kws σ L fun zs L1 => ∃ a b c, zs = [a, b, c] ∧ rs H0 M sp EE [b, c, a] L1 Q) (hdb : (x == ("__debug__" : Str)) = false) : ke X H0 M (.Call (.Name x p) [] kws pos) σ L Q :=
  bd.callDK D hj hg hall hks hpl (fun H z => wk_mono (h H z) fun zs H2 ⟨L2, z2, a, b, c, e, q⟩ => ⟨L2, z2, by subst e; exact ⟨rfl, fun ws r => vkc r, q⟩⟩) hdb
/-! ### wide sets -/
theorem setR_le {w : World} {h : Heap} {a : Addr} {S : Int → Bool} {n : Nat} (R : SetR w h a S n) {zs : List Int} (hz : ∀ j, S j = true → j ∈ zs) : n ≤ zs.length := by
  obtain ⟨o, es, ep, t, ho, _, _, _, nd, mm, _, _, hn, _⟩ := R
  have l : (es.toList.map keyOf).length = n := by rw [List.length_map, Array.length_toList]; exact hn
  rw [← l]
  exact nd.length_le_of_subset fun j hj => hz j ((mm j).mpr hj)
def rSetW (K : PySem.W.Frag) (w : World) : List V → Hp → VK → Prop := fun vs H Q => ∃ (l : Addr) (ns : List Int), vs = [.ref l] ∧ SqL K H l (ns.map V.int) ∧ ns.length ≤ 1000 ∧ ∀ q c, H q = none → (∀ zs : List Int, (∀ j ∈ ns, j ∈ zs) → c ≤ zs.length) → Q (.ref q) (upd H q (SetO w q (fun j => decide (j ∈ ns)) c))
theorem cr_setW (hc : X.calm = true) : CallR X (.type "set") (rSetW X.K X.w) := by
  intro pins s σ H vs us Q I r h
  obtain ⟨l, ns, rfl, hl, h60, q⟩ := h
  rw [Vals.ref1 r]
  obtain ⟨its, rv, pl, hz⟩ := I.list hl
  refine set_make (I.ok.hd hc) pl.isList (by simpa using ints_of_vals rv) (by unfold scanBound; omega) fun h2 tk c f => ?_
  exact ⟨.ref _, _, I.laid (t' := tk) f.2.2 (Nat.le_refl _) (setO_new f.1), rfl, q _ c (I.hok.fresh (Nat.le_refl _)) fun zs hz => setR_le f.1 fun j hj => hz j (of_decide_eq_true hj)⟩
theorem rc_setW {l : Addr} {ns : List Int} (hc : X.calm = true) (ia : At L l (.lst (ns.map V.int))) (h : ns.length ≤ 1000) (k : ∀ q c, H0 q = none → (∀ zs : List Int, (∀ j ∈ ns, j ∈ zs) → c ≤ zs.length) → Q (.ref q) ((q, SetO X.w q (fun j => decide (j ∈ ns)) c) :: L)) : rc X H0 M (.type "set") [.ref l] L Q :=
  rc_of (cr_setW hc) fun H z => ⟨l, ns, rfl, z.sq ia, h, fun q c n hc => ⟨_, z.new n, k q c (z.fresh n) hc⟩⟩
/-! ### list(range(a, b)) -/
abbrev rgI2 (a b : Int) : List Int := (List.range (b - a).toNat).map fun (i : Nat) => a + (i : Int)
theorem rgV_eq2 (a b : Int) : rgV a b = (rgI2 a b).map V.int := by
  unfold rgV rgI2
  rw [List.map_map]
  exact List.map_congr_left fun i _ => rfl
theorem ke_listRg2 {a b : Expr} {p p2 pos2 : Pos} (hc : X.calm = true) (hg : Gl X "list") (hm : X.mg "list" = none) (hg2 : Gl X "range") (hm2 : X.mg "range" = none) (na : starEach [a, b] X.env = (false, eval a X.env) :: starEach [b] X.env) (nb : starEach [b] X.env = (false, eval b X.env) :: starEach [] X.env) (hp : (backTo pos2 (starEach [b] X.env)).any (·.1) = false)
    (na2 : starEach [.Call (.Name "range" p2) [a, b] [] pos2] X.env = (false, eval (.Call (.Name "range" p2) [a, b] [] pos2) X.env) :: starEach [] X.env)
    (h : ke X H0 M a σ L fun x L1 => ke X H0 M b σ L1 fun y L2 => ∃ i n : Int, x = .int i ∧ y = .int n ∧ (-1152921504606846976 ≤ i ∧ i ≤ n ∧ n ≤ i + 16777216 ∧ n ≤ 1152921504606846976) ∧ New H0 (.lst ((rgI2 i n).map V.int)) L2 Q) : ke X H0 M (.Call (.Name "list" p) [.Call (.Name "range" p2) [a, b] [] pos2] [] pos) σ L Q := fun H z =>
  we_of (pe_listRg hc hg hm (prg_2 hg2 hm2 pe_we pe_we na nb hp) na2) (we_mono (h H z) fun x H1 ⟨L1, z1, q1⟩ => we_mono (q1 H1 z1) fun y H2 ⟨L2, z2, i, n, ex, ey, bd, q⟩ => ⟨i, n, ex, ey, ⟨by omega, by omega, by omega, by omega, by omega⟩, by rw [rgV_eq2]; exact new_up z2 q⟩)
end
section
variable {α β : Type} {X : Cx} {elt tg iter : Expr} {scope : Scope} {pos : Pos} {H0 : Hp} {M : Addr → Prop} {L : LL} {σ : L2.St} {Q : V → LL → Prop} {P : Program} {w : World} {K : PySem.W.Frag} {mg : Str → Option Value} {base : Heap} {k : Nat} {N Nv Nw : List Str} {sc : Scope}
theorem take_range (n i : Nat) (h : i < n) : (List.range n).take (i + 1) = (List.range n).take i ++ [i] := take_snoc (by rw [List.getElem?_range h])
/-- [f(i) for i in range(n)] -/
theorem Body.klR {a : Expr} {p pr : Pos} (bd : Body X P w K mg base k N Nv sc) (ns : Ns X N Nw) (own : List (Str × Nat)) (Nb No : List Str) (f : Nat → V) (vis : ∀ x ∈ Nb, (relS scope sc).names.lookup x = some .local ∨ (relS scope sc).names.lookup x = some .cell ∨ (relS scope sc).names.lookup x = some .free) (pl : ∀ x ∈ Nb, (x == ("__debug__" : Str)) = false ∧ (x == ("__classdict__" : Str)) = false) (lc : ∀ x ∈ No, (relS scope sc).names.lookup x = some .local)
    (hg : Gl X "range") (hm : X.mg "range" = none) (hse : starEach [a] X.env = [(false, eval a X.env)])
    (h : ke X H0 M a σ L fun w1 L1 => ∃ n : Int, w1 = .int n ∧ n ≤ 1000 ∧ -1000 ≤ n ∧
      (∀ i : Nat, (i : Int) < n → ∀ D acc, H0 D = none → ∀ B, Body B P w K mg base k N Nb (relS scope sc) → Ns B N No → kg B H0 M tg (.int i) (wipe σ (own.map (·.2))) ((D, acc) :: L1) fun σ2 L2 => wipe σ2 (own.map (·.2)) = wipe σ (own.map (·.2)) ∧
        ∀ B, Body B P w K mg base k N Nb (relS scope sc) → ke B H0 M elt σ2 L2 fun y L4 => y = f i ∧ Sub ((D, acc) :: L1) L4) ∧
      ∀ D, H0 D = none → Q (.ref D) ((D, .lst ((List.range n.toNat).map f)) :: L1)) :
    kLc X H0 M elt tg (.Call (.Name "range" p) [a] [] pr) [] scope own σ L Q := by
  refine Body.kl bd ns own Nb No vis pl lc (ki_range1 hg hm hse fun H z => we_mono (h H z) fun v H1 ⟨L1, z1, n, ev, hl, hl2, st, en⟩ => ⟨L1, z1, n, ev, by omega, by omega, fun J wk D nD => ?_⟩)
  refine ⟨_, _, _, fun i L => L = (D, .lst (((List.range n.toNat).take i).map f)) :: L1, wk, rfl, fun _ _ _ _ => trivial, fun i x L L' hi e hx B bB nB => ?_, fun L e => ?_⟩
  · obtain ⟨e2, hx⟩ := hx
    subst e2 e hx
    have key := st i (by omega) D (.lst (((List.range n.toNat).take i).map f)) nD B bB nB
    refine fun H z pins s u I r => thn (key H z pins s u I r) fun _ s' ⟨σ', H', I', L2, z2, e4, q⟩ => ⟨σ', H', I', L2, z2, e4, fun B2 bB2 => ?_⟩
    show kf _ _ _ [] _ _ _
    refine kf_nil ?_
    rw [if_pos rfl]
    intro B3 bB3
    refine fun H z => we_mono (q B3 bB3 H z) fun y2 H2 w => ?_
    obtain ⟨L4, z4, e7, e8⟩ := w
    subst e7
    refine ⟨_, z4.sub e8, _, _, .here, ?_, _, .refl _, ?_⟩
    · rw [List.length_map, List.length_take]
      exact Nat.lt_of_le_of_lt (Nat.le_trans (Nat.min_le_left _ _) (show i ≤ 1000 by omega)) (by decide)
    · dsimp only
      rw [take_range _ _ hi, List.map_append]
      rfl
  · subst e
    have := en D nD
    rw [show (List.range n.toNat).take n.toNat = List.range n.toNat from List.take_of_length_le (by rw [List.length_range]; exact Nat.le_refl _)]
    exact this
theorem Body.lcR {a : Expr} {p pr : Pos} (bd : Body X P w K mg base k N Nv sc) (ns : Ns X N Nw) (own : List (Str × Nat)) (Nb No : List Str) (f : Nat → V) (ok : BlkOk N sc scope own) (vis : ∀ x ∈ Nb, (relS scope sc).names.lookup x = some .local ∨ (relS scope sc).names.lookup x = some .cell ∨ (relS scope sc).names.lookup x = some .free) (pl : ∀ x ∈ Nb, (x == ("__debug__" : Str)) = false ∧ (x == ("__classdict__" : Str)) = false) (lc : ∀ x ∈ No, (relS scope sc).names.lookup x = some .local)
    (hg : Gl X "range") (hm : X.mg "range" = none) (hse : starEach [a] X.env = [(false, eval a X.env)]) (hs : ∀ x, foldedSetIterable (.Call (.Name "range" p) [a] [] pr) X.env x = pure x)
    (h : ke X H0 M a σ L fun w1 L1 => ∃ n : Int, w1 = .int n ∧ n ≤ 1000 ∧ -1000 ≤ n ∧
      (∀ i : Nat, (i : Int) < n → ∀ D acc, H0 D = none → ∀ B, Body B P w K mg base k N Nb (relS scope sc) → Ns B N No → kg B H0 M tg (.int i) (wipe σ (own.map (·.2))) ((D, acc) :: L1) fun σ2 L2 => wipe σ2 (own.map (·.2)) = wipe σ (own.map (·.2)) ∧
        ∀ B, Body B P w K mg base k N Nb (relS scope sc) → ke B H0 M elt σ2 L2 fun y L4 => y = f i ∧ Sub ((D, acc) :: L1) L4) ∧
      ∀ D, H0 D = none → Q (.ref D) ((D, .lst ((List.range n.toNat).map f)) :: L1)) :
    ke X H0 M (.ListComp elt [⟨tg, .Call (.Name "range" p) [a] [] pr, [], 0⟩] scope pos) σ L Q :=
  ke_kl bd.calm (by rw [ns.eq]; exact ns.nd) (by rw [ns.eq, bd.scope]; exact ok) hs (Body.klR bd ns own Nb No f vis pl lc hg hm hse h)
/-- [made(i) for i in range(n)], nothing that was changes -/
theorem Body.klMRs {a : Expr} {p pr : Pos} (v : β → V) (h : β → Addr × HO) (T : Nat → β → Prop) (bd : Body X P w K mg base k N Nv sc) (ns : Ns X N Nw) (own : List (Str × Nat)) (Nb No : List Str) (vis : ∀ x ∈ Nb, (relS scope sc).names.lookup x = some .local ∨ (relS scope sc).names.lookup x = some .cell ∨ (relS scope sc).names.lookup x = some .free) (pl : ∀ x ∈ Nb, (x == ("__debug__" : Str)) = false ∧ (x == ("__classdict__" : Str)) = false) (lc : ∀ x ∈ No, (relS scope sc).names.lookup x = some .local)
    (hg : Gl X "range") (hm : X.mg "range" = none) (hse : starEach [a] X.env = [(false, eval a X.env)])
    (hk : ke X H0 M a σ L fun w1 L1 => ∃ (n : Int), w1 = .int n ∧ n ≤ 1000 ∧ 0 ≤ n ∧
      (∀ (i : Nat), (i : Int) < n → ∀ L0, Lift L1 L0 → ∀ B, Body B P w K mg base k N Nb (relS scope sc) → Ns B N No → kg B H0 M tg (.int i) (wipe σ (own.map (·.2))) L0 fun σ2 L3 => wipe σ2 (own.map (·.2)) = wipe σ (own.map (·.2)) ∧
        ∀ B, Body B P w K mg base k N Nb (relS scope sc) → ke B H0 M elt σ2 L3 fun y L4 => ∃ (b : β), y = v b ∧ T i b ∧ H0 (h b).1 = none ∧ Sub (h b :: L0) L4) ∧
      ∀ D (ys : List β), H0 D = none → F2 T (List.range n.toNat) ys → (∀ y ∈ ys, H0 (h y).1 = none) → Q (.ref D) ((D, .lst (ys.map v)) :: (L1 ++ ys.map h))) :
    kLc X H0 M elt tg (.Call (.Name "range" p) [a] [] pr) [] scope own σ L Q := by
  refine Body.kl bd ns own Nb No vis pl lc (ki_range1 hg hm hse fun H z => we_mono (hk H z) fun w1 H1 ⟨L1, z1, n, ev, hl, hn, st, en⟩ => ⟨L1, z1, n, ev, by omega, by omega, fun J wk D nD => ?_⟩)
  refine ⟨_, _, _, fun i L => ∃ (ys : List β), F2 T ((List.range n.toNat).take i) ys ∧ (∀ y ∈ ys, H0 (h y).1 = none) ∧ L = (D, .lst (ys.map v)) :: (L1 ++ ys.map h), wk, ⟨[], .nil, (fun y hy => nomatch hy), by rw [List.map_nil, List.map_nil, List.append_nil]⟩, fun _ _ _ _ => trivial, fun i x L L' hi ⟨ys, f2, nf, e⟩ hx B bB nB => ?_, fun L ⟨ys, f2, nf, e⟩ => ?_⟩
  · obtain ⟨e2, hx⟩ := hx
    subst e2
    subst e
    subst hx
    have key := st i (by omega) ((D, .lst (ys.map v)) :: (L1 ++ ys.map h)) (fun a o h => .there (.app_l h)) B bB nB
    refine fun H z pins s u I r => thn (key H z pins s u I r) fun _ s' ⟨σ', H', I', L3, z3, e4, q⟩ => ⟨σ', H', I', L3, z3, e4, fun B2 bB2 => ?_⟩
    show kf _ _ _ [] _ _ _
    refine kf_nil ?_
    rw [if_pos rfl]
    intro B3 bB3
    refine fun H z => we_mono (q B3 bB3 H z) fun y2 H2 w => ?_
    obtain ⟨L4, z4, b, e7, tb, nb, sb⟩ := w
    subst e7
    refine ⟨_, (z4.sub sb).perm (L' := (D, .lst (ys.map v)) :: (L1 ++ ys.map h ++ [h b])) ?_, _, _, .here, ?_, _, .refl _, ?_⟩
    · refine List.Perm.trans ?_ (List.Perm.swap _ _ _)
      exact List.Perm.cons _ (List.perm_append_comm (l₂ := [h b]))
    · rw [List.length_map, ← f2.len, List.length_take]
      exact Nat.lt_of_le_of_lt (Nat.le_trans (Nat.min_le_left _ _) (show i ≤ 1000 by omega)) (by decide)
    · refine ⟨ys ++ [b], ?_, ?_, ?_⟩
      · rw [take_range _ _ hi]; exact f2.snoc tb
      · intro y' hy'
        rcases List.mem_append.mp hy' with e | e
        · exact nf y' e
        · rw [List.mem_singleton.mp e]; exact nb
      · rw [List.map_append, List.map_append, List.append_assoc]
        rfl
  · subst e
    rw [show (List.range n.toNat).take n.toNat = List.range n.toNat from List.take_of_length_le (by rw [List.length_range]; exact Nat.le_refl _)] at f2
    exact en D ys nD f2 nf
theorem Body.lcMRs {a : Expr} {p pr : Pos} (v : β → V) (h : β → Addr × HO) (T : Nat → β → Prop) (bd : Body X P w K mg base k N Nv sc) (ns : Ns X N Nw) (own : List (Str × Nat)) (Nb No : List Str) (ok : BlkOk N sc scope own) (vis : ∀ x ∈ Nb, (relS scope sc).names.lookup x = some .local ∨ (relS scope sc).names.lookup x = some .cell ∨ (relS scope sc).names.lookup x = some .free) (pl : ∀ x ∈ Nb, (x == ("__debug__" : Str)) = false ∧ (x == ("__classdict__" : Str)) = false) (lc : ∀ x ∈ No, (relS scope sc).names.lookup x = some .local)
    (hg : Gl X "range") (hm : X.mg "range" = none) (hse : starEach [a] X.env = [(false, eval a X.env)]) (hs : ∀ x, foldedSetIterable (.Call (.Name "range" p) [a] [] pr) X.env x = pure x)
    (hk : ke X H0 M a σ L fun w1 L1 => ∃ (n : Int), w1 = .int n ∧ n ≤ 1000 ∧ 0 ≤ n ∧
      (∀ (i : Nat), (i : Int) < n → ∀ L0, Lift L1 L0 → ∀ B, Body B P w K mg base k N Nb (relS scope sc) → Ns B N No → kg B H0 M tg (.int i) (wipe σ (own.map (·.2))) L0 fun σ2 L3 => wipe σ2 (own.map (·.2)) = wipe σ (own.map (·.2)) ∧
        ∀ B, Body B P w K mg base k N Nb (relS scope sc) → ke B H0 M elt σ2 L3 fun y L4 => ∃ (b : β), y = v b ∧ T i b ∧ H0 (h b).1 = none ∧ Sub (h b :: L0) L4) ∧
      ∀ D (ys : List β), H0 D = none → F2 T (List.range n.toNat) ys → (∀ y ∈ ys, H0 (h y).1 = none) → Q (.ref D) ((D, .lst (ys.map v)) :: (L1 ++ ys.map h))) :
    ke X H0 M (.ListComp elt [⟨tg, .Call (.Name "range" p) [a] [] pr, [], 0⟩] scope pos) σ L Q :=
  ke_kl bd.calm (by rw [ns.eq]; exact ns.nd) (by rw [ns.eq, bd.scope]; exact ok) hs (Body.klMRs v h T bd ns own Nb No vis pl lc hg hm hse hk)
end
/-! ### sorted lists -/
theorem sorted_uniq : ∀ {xs ys : List Int}, xs.Pairwise (· < ·) → ys.Pairwise (· < ·) → (∀ j, j ∈ xs ↔ j ∈ ys) → xs = ys
  | [], [], _, _, _ => rfl
  | [], y :: _, _, _, h => absurd ((h y).mpr List.mem_cons_self) (by simp)
  | x :: _, [], _, _, h => absurd ((h x).mp List.mem_cons_self) (by simp)
  | x :: xs, y :: ys, h1, h2, h => by
    obtain ⟨a1, a2⟩ := List.pairwise_cons.mp h1
    obtain ⟨b1, b2⟩ := List.pairwise_cons.mp h2
    have e : x = y := by
      have p := (h x).mp List.mem_cons_self
      have q := (h y).mpr List.mem_cons_self
      rcases List.mem_cons.mp p with e | p
      · exact e
      · rcases List.mem_cons.mp q with e | q
        · exact e.symm
        · have := a1 y q
          have := b1 x p
          omega
    subst e
    rw [sorted_uniq a2 b2 fun j => ?_]
    constructor
    · intro m
      rcases List.mem_cons.mp ((h j).mp (List.mem_cons_of_mem _ m)) with e | q
      · subst e; exact absurd (a1 j m) (Int.lt_irrefl _)
      · exact q
    · intro m
      rcases List.mem_cons.mp ((h j).mpr (List.mem_cons_of_mem _ m)) with e | q
      · subst e; exact absurd (b1 j m) (Int.lt_irrefl _)
      · exact q
theorem range_sorted {a d : Int} (hd : 0 < d) (n : Nat) : ((List.range n).map fun (i : Nat) => a + d * (i : Int)).Pairwise (· < ·) := by
  rw [List.pairwise_map]
  refine List.pairwise_lt_range.imp fun {i j} h => ?_
  have := Int.mul_lt_mul_of_pos_left (show (i : Int) < j by omega) hd
  omega
end Xi

/-! ## Exn -/
/-! Exceptions: defs that raise, calls of them, try .. except C as e: return f(e), isinstance of what is caught. -/
namespace Xi
open PySem PySem.Spec PyProof.Rows L2 StX

abbrev veB : List Value := [.type "ValueError", .type "Exception", .type "BaseException", .type "object"]
/-- an exception of the class C comes out; what stood, stands -/
def RaiP (H : Hp) (E : XK) (C : Addr) : Prop := ∀ H', Ext H H' → E (.ref C) none H'
theorem RaiP.e0 {H0 H : Hp} {E : XK} {C : Addr} {L : LL} (k : RaiP H0 E C) (h : Hs H0 (fun _ => False) L H) : E (.ref C) none H := k H h.ext0
/-- a class of the module called x -/
structure ClsM (K : PySem.W.Frag) (mg : Str → Option Value) (x : Str) (C : Addr) : Prop where
  gm : mg x = some (.ref C)
  kp : PySem.W.keepIn K (.ref C) = true
/-- a class of exceptions without __init__ -/
structure RaiC (K : PySem.W.Frag) (C : Addr) : Prop where
  q : PySem.W.excIn K C veB "ValueError.__new__" = true
  sb : PySem.W.subIn K (.ref C) (.type "BaseException") = some true
  ty : PySem.W.typeIn K (.ref C) = some (.type "type")

/-! ### contexts -/
section
variable {X : Cx} {P : Program} {w : World} {K : PySem.W.Frag} {mg : Str → Option Value} {base : Heap} {k j : Nat} {N Nv : List Str} {sc : Scope}
theorem Body.tr (b : Body X P w K mg base k N Nv sc) {pn : List (Addr × Obj)} {xe : Value → Shared → Prop} (own : PassesOwn (model X.prog X.w) X.A X.env xe) : Body (X.tr pn xe) P w K mg base k N Nv sc :=
  ⟨b.prog, b.w, b.K, b.mg, b.base, b.room, b.gd, ⟨b.nm.eq, b.nm.vis, b.nm.plain⟩, b.scope, b.calm, own⟩
theorem Body.nx (b : Body X P w K mg base k N Nv sc) : Body X.nox P w K mg base k N Nv sc :=
  ⟨b.prog, b.w, b.K, b.mg, b.base, b.room, b.gd, ⟨b.nm.eq, b.nm.vis, b.nm.plain⟩, b.scope, b.calm, PassesOwn.never⟩
theorem Ns.tr (n : Ns X N Nv) {pn : List (Addr × Obj)} {xe : Value → Shared → Prop} : Ns (X.tr pn xe) N Nv := ⟨n.eq, n.nd, n.loc⟩
theorem Ns.nx (n : Ns X N Nv) : Ns X.nox N Nv := ⟨n.eq, n.nd, n.loc⟩
end
/-- the frame is the context's own -/
structure Fr1 (X : Cx) : Prop where
  st : X.stack = X.env :: X.outer
  fr : X.env.frame = some X.env.locals
  lo : ∀ n, X.env.kindOf n = X.env.scope.names.lookup n

/-- a def that may let an exception out, by its body -/
theorem fk_bodyX {P : Program} {w : World} {K : PySem.W.Frag} {mg : Str → Option Value} {base : Heap} {k : Nat} {f : Addr} {fd : FuncData} {x qual : Str} {st : Stmt} {ss : List Stmt} {N Nv ps : List Str} {sp : Sp} (F : Fun K x qual st f fd) (S : FnScope N ps (defScope st))
    (l : ∀ x ∈ Nv, (defScope st).names.lookup x = some .local ∨ (defScope st).names.lookup x = some .cell) (p : ∀ x ∈ Nv, (x == ("__debug__" : Str)) = false ∧ (x == ("__classdict__" : Str)) = false) (eb : defBody st = ss)
    (len : ∀ vs H Q E, sp vs H Q E → vs.length = ps.length)
    (hb : ∀ (X : Cx), Body X P w K mg base k N Nv (defScope st) → Ns X N Nv → ∀ (H : Hp) (vs : List V) (Q : VK) (E : XK), L2N.Takes X (fun cls d _ H' => E cls d H') → sp vs H Q E → wb X ss { nx := fun _ H' => Q .non H', rt := Q } (start N vs) H) : Fk P w K mg base (L2N.CX P w) (k + 1) f fd ps sp :=
  fk_of F S len fun cdv A out s H vs Q E room gd q => by
    rw [eb]
    have bd : Body (cxOf (L2N.CX P w) P w K mg base N qual (defScope st) f cdv A out s H E) P w K mg base k N Nv (defScope st) := ⟨rfl, rfl, rfl, rfl, rfl, room, gd, ⟨rfl, fun x m => (l x m).elim .inl fun z => .inr (.inl z), p⟩, rfl, rfl, passes_of rfl⟩
    exact hb _ bd ⟨rfl, S.nd, fun x m => ⟨l x m, .inl rfl⟩⟩ H vs Q E (L2N.takes_of rfl rfl rfl rfl) q
/-- a def that lets nothing out, its frame told -/
theorem fk_bodyT {P : Program} {w : World} {K : PySem.W.Frag} {mg : Str → Option Value} {base : Heap} {k : Nat} {f : Addr} {fd : FuncData} {x qual : Str} {st : Stmt} {ss : List Stmt} {N Nv ps : List Str} {sp : Sp} (F : Fun K x qual st f fd) (S : FnScope N ps (defScope st))
    (l : ∀ x ∈ Nv, (defScope st).names.lookup x = some .local ∨ (defScope st).names.lookup x = some .cell) (p : ∀ x ∈ Nv, (x == ("__debug__" : Str)) = false ∧ (x == ("__classdict__" : Str)) = false) (eb : defBody st = ss)
    (len : ∀ vs H Q E, sp vs H Q E → vs.length = ps.length)
    (hb : ∀ (X : Cx), Body X P w K mg base k N Nv (defScope st) → Ns X N Nv → Fr1 X → ∀ (H : Hp) (vs : List V) (Q : VK) (E : XK), sp vs H Q E → wb X ss { nx := fun _ H' => Q .non H', rt := Q } (start N vs) H) : Fk P w K mg base CX0 (k + 1) f fd ps sp :=
  fk_of F S len fun cdv A out s H vs Q E room gd q => by
    rw [eb]
    have bd : Body (cxOf CX0 P w K mg base N qual (defScope st) f cdv A out s H E).nox P w K mg base k N Nv (defScope st) := ⟨rfl, rfl, rfl, rfl, rfl, room, gd, ⟨rfl, fun x m => (l x m).elim .inl fun z => .inr (.inl z), p⟩, rfl, rfl, PassesOwn.never⟩
    exact wb_of (PSs.nox pb_wb) (hb _ bd ⟨rfl, S.nd, fun x m => ⟨l x m, .inl rfl⟩⟩ ⟨rfl, rfl, fun _ => rfl⟩ H vs Q E q)

section
variable {P : Program} {w : World} {K : PySem.W.Frag} {mg : Str → Option Value} {base : Heap} {k : Nat} {x m qual : Str} {st : Stmt} {sp : Sp} {ps ks : List Str} {g : (α : Type) → List α → List α} {Cs : Addr → Prop}
theorem FunM.okX (F : FunM K mg x st) (b : ∀ f fd, Fun K x x st f fd → Binds K fd ps []) (h : ∀ f fd, Fun K x x st f fd → Fk P w K mg base (L2N.CX P w) k f fd ps sp) : DefT P w K mg base (L2N.CX P w) k x sp := by
  obtain ⟨f, fd, F, hm⟩ := F.ex
  exact ⟨f, fd, ps, h f fd F, hm, F.kp, b f fd F⟩
theorem FunC.okX (F : FunC K Cs m qual st) (hc : ∀ C, Cs C → Cls K C) (b : ∀ f fd, Fun K m qual st f fd → Binds K fd ps []) (h : ∀ f fd, Fun K m qual st f fd → Fk P w K mg base (L2N.CX P w) k f fd ps sp) : MethT P w K mg base (L2N.CX P w) k Cs m sp := by
  obtain ⟨f, fd, F, hm⟩ := F.ex
  exact ⟨f, fd, ps, h f fd F, fun C c => ⟨hc C c, hm C c⟩, b f fd F⟩
/-- .. called by keywords -/
structure DefKX (P : Program) (w : World) (K : PySem.W.Frag) (mg : Str → Option Value) (base : Heap) (k : Nat) (x : Str) (ks : List Str) (g : (α : Type) → List α → List α) (sp : Sp) : Prop where
  ex : ∃ f fd ps, Fk P w K mg base (L2N.CX P w) k f fd ps sp ∧ mg x = some (.ref f) ∧ PySem.W.keepIn K (.ref f) = true ∧ ∀ (s : Shared) (ws : List Value), ws.length = ks.length → BindsTo s fd ⟨[], ks.zip ws⟩ (ps.zip (g Value ws))
theorem FunM.okKX (F : FunM K mg x st)
    (b : ∀ f fd, Fun K x x st f fd → ∀ (s : Shared) (ws : List Value), ws.length = ks.length → BindsTo s fd ⟨[], ks.zip ws⟩ (ps.zip (g Value ws))) (h : ∀ f fd, Fun K x x st f fd → Fk P w K mg base (L2N.CX P w) k f fd ps sp) : DefKX P w K mg base k x ks g sp := by
  obtain ⟨f, fd, F, hm⟩ := F.ex
  exact ⟨f, fd, ps, h f fd F, hm, F.kp, b f fd F⟩
end

/-! ### raise, calls that raise -/
section
variable {X : Cx} {P : Program} {w : World} {K : PySem.W.Frag} {mg : Str → Option Value} {base : Heap} {k j : Nat} {N Nv : List Str} {sc : Scope} {sp : Sp} {x m : Str} {C : Addr} {Cs : Addr → Prop} {W : WX} {E : XK}
variable {p p2 pos pos' apos : Pos} {e o : Expr} {es : List Expr} {kws : List Keyword} {ks' : List Str} {g : (α : Type) → List α → List α} {H0 : Hp} {M : Addr → Prop} {L : LL} {σ : L2.St} {Q : V → LL → Prop} {nx : L2.St → LL → Prop} {rt : V → LL → Prop} {bk ct : L2.St → LL → Prop}
theorem ks_raise {t : Str} {i : Nat} (bd : Body X P w K mg base k N Nv sc) (tk : L2N.Takes X W) (c : ClsM K mg x C) (r : RaiC K C) (hg : sc.names.lookup x = some .globalImplicit) (h : ∀ H, Hs H0 M L H → W (.ref C) none σ H) (hdb : (x == ("__debug__" : Str)) = false := by decide) :
    ks X H0 M (.Raise (some (.Call (.Name x p) [.Constant (.str t) i p2] [] pos)) none pos') nx rt bk ct σ L := by
  have q : PySem.W.excIn X.K C veB "ValueError.__new__" = true := by rw [bd.K]; exact r.q
  have kp : PySem.W.keepIn X.K (.ref C) = true := by rw [bd.K]; exact c.kp
  have s1 : PySem.W.subIn X.K (.ref C) (.type "BaseException") = some true := by rw [bd.K]; exact r.sb
  have s2 : PySem.W.typeIn X.K (.ref C) = some (.type "type") := by rw [bd.K]; exact r.ty
  exact ks_of (L2N.ps_raise bd.calm tk (L2N.pmk_own PySem.F.excBase_ValueError q (bd.no c.gm) kp (raises_own s1 s2) (bd.gl hg) hdb)) fun H z => h H z
theorem px_of (tk : L2N.Takes X W) (hW : ∀ cls d σ H, E cls d H → W cls d σ H) : Passes (L2N.CX X.prog X.w) X E := L2N.passes_call tk hW
theorem DefT.cx {CX : CXT} (D : DefT P w K mg base (L2N.CX P w) j x sp) (bd : Body X P w K mg base k N Nv sc) : DefT X.prog X.w X.K X.mg X.base (L2N.CX X.prog X.w) j x sp := by rw [bd.prog, bd.w, bd.K, bd.mg, bd.base]; exact D
/-- the caller's wish where a callee raises -/
abbrev EW (H0 : Hp) (M : Addr → Prop) (W : WX) (σ : L2.St) : XK := fun cls d H => W cls d σ H
/-- W does not read the slots -/
def Flat (W : WX) : Prop := ∀ cls d σ σ' H, W cls d σ H → W cls d σ' H
theorem Body.callX (bd : Body X P w K mg base k N Nv sc) (tk : L2N.Takes X fun cls d _ H => E cls d H) (D : DefT P w K mg base (L2N.CX P w) j x sp) (hj : Nat.ble j k = true) (hg : sc.names.lookup x = some .globalImplicit) (he : starEach (e :: es) X.env = (false, eval e X.env) :: starEach es X.env) (hpl : (backTo pos (starEach es X.env)).any (·.1) = false)
    (h : ka X H0 M (e :: es) σ L fun vs L1 => rs H0 M sp E vs L1 Q) (hdb : (x == ("__debug__" : Str)) = false) : ke X H0 M (.Call (.Name x p) (e :: es) [] pos) σ L Q := by
  have D' : DefT X.prog X.w X.K X.mg X.base (L2N.CX X.prog X.w) j x sp := by rw [bd.prog, bd.w, bd.K, bd.mg, bd.base]; exact D
  exact ke_call D' (bd.rm (Nat.le_of_ble_eq_true hj)) bd.gd (L2N.passes_call tk fun _ _ _ _ q => q) (bd.gl hg) he hpl h hdb
theorem Body.callKX (bd : Body X P w K mg base k N Nv sc) (tk : L2N.Takes X fun cls d _ H => E cls d H) (D : DefKX P w K mg base j x ks' g sp) (hj : Nat.ble j k = true) (hg : sc.names.lookup x = some .globalImplicit)
    (hall : (backToKw pos (keywordEach kws X.env)).all (·.1.isSome) = true) (hks : (backToKw pos (keywordEach kws X.env)).filterMap (·.1) = ks') (hpl : ((backTo pos (starEach [] X.env)).any (·.1) || (backToKw pos (keywordEach kws X.env)).any (·.1.isNone)) = false)
    (h : kk X H0 M kws σ L fun zs L1 => zs.length = ks'.length ∧ (∀ ws : List Value, Vals zs ws → Vals (g V zs) (g Value ws)) ∧ rs H0 M sp E (g V zs) L1 Q) (hdb : (x == ("__debug__" : Str)) = false) : ke X H0 M (.Call (.Name x p) [] kws pos) σ L Q := fun H z pins s I => by
  obtain ⟨f, fd, ps, F, hm, hk, hb⟩ := D.ex
  rw [← bd.prog, ← bd.w, ← bd.K, ← bd.mg, ← bd.base] at F
  rw [← bd.mg] at hm
  rw [← bd.K] at hk
  have hr := bd.rm (Nat.le_of_ble_eq_true hj)
  refine wpAny_Call_Name_kw (ld_glob I (bd.gl hg) hm ?_ hdb)
  refine PySem.W.callWith_KW0 (first := []) (h₀ := X.base) I.ok.mod.kin hk hall (thn (h H z pos pins s I) fun ws s2 ⟨zs, H2, I2, r, L2, z2, lz, rz, q2⟩ => ⟨I2.kIn, ?_⟩) hpl
  rw [hks]
  have q3 := q2 H2 z2
  have lw : ws.length = ks'.length := r.length.symm.trans lz
  refine wpAny_call (codeAny_mono (F.go X.A X.stack s2 H2 ⟨[], ks'.zip ws⟩ (g Value ws) (g V zs) _ E hr bd.gd I2.env0 (hb s2 ws lw) (rz ws r) q3) fun res s3 hq => ?_)
  rcases res with er | fl
  · exact L2N.passes_call tk (E := E) (fun _ _ _ _ q => q) pins σ H2 s2 er s3 I2 hq
  · cases fl with
    | ret u => exact I2.after hq
    | next => exact hq.elim
    | brk => exact hq.elim
    | cont => exact hq.elim
theorem Body.callKX2 {k1 k2 : Str} (bd : Body X P w K mg base k N Nv sc) (tk : L2N.Takes X fun cls d _ H => E cls d H) (D : DefKX P w K mg base j x [k1, k2] @gR2 sp) (hj : Nat.ble j k = true) (hg : sc.names.lookup x = some .globalImplicit)
    (hall : (backToKw pos (keywordEach kws X.env)).all (·.1.isSome) = true) (hks : (backToKw pos (keywordEach kws X.env)).filterMap (·.1) = [k1, k2]) (hpl : ((backTo pos (starEach [] X.env)).any (·.1) || (backToKw pos (keywordEach kws X.env)).any (·.1.isNone)) = false)
    (h : kk X H0 M kws σ L fun zs L1 => ∃ a b, zs = [a, b] ∧ rs H0 M sp E [b, a] L1 Q) (hdb : (x == ("__debug__" : Str)) = false) : ke X H0 M (.Call (.Name x p) [] kws pos) σ L Q :=
  bd.callKX tk D hj hg hall hks hpl (fun H z => wk_mono (h H z) fun zs H2 ⟨L2, z2, a, b, e, q⟩ => ⟨L2, z2, by subst e; exact ⟨rfl, fun ws r => vk2 r, q⟩⟩) hdb
theorem Body.callKX3 {k1 k2 k3 : Str} (bd : Body X P w K mg base k N Nv sc) (tk : L2N.Takes X fun cls d _ H => E cls d H) (D : DefKX P w K mg base j x [k1, k2, k3] @gR3 sp) (hj : Nat.ble j k = true) (hg : sc.names.lookup x = some .globalImplicit)
    (hall : (backToKw pos (keywordEach kws X.env)).all (·.1.isSome) = true) (hks : (backToKw pos (keywordEach kws X.env)).filterMap (·.1) = [k1, k2, k3]) (hpl : ((backTo pos (starEach [] X.env)).any (·.1) || (backToKw pos (keywordEach kws X.env)).any (·.1.isNone)) = false)
    (h : kk X H0 M kws σ L fun zs L1 => ∃ a b c, zs = [a, b, c] ∧ rs H0 M sp E [c, b, a] L1 Q) (hdb : (x == ("__debug__" : Str)) = false) : ke X H0 M (.Call (.Name x p) [] kws pos) σ L Q :=
  bd.callKX tk D hj hg hall hks hpl (fun H z => wk_mono (h H z) fun zs H2 ⟨L2, z2, a, b, c, e, q⟩ => ⟨L2, z2, by subst e; exact ⟨rfl, fun ws r => vk3 r, q⟩⟩) hdb
end

/-! ### try: what is raised is caught -/
section
variable {X : Cx} {P : Program} {w : World} {K : PySem.W.Frag} {mg : Str → Option Value} {base : Heap} {k j : Nat} {N Nv : List Str} {sc : Scope} {x n : Str} {c : Value} {i : Nat} {body suite : List Stmt} {b₀ : Stmt} {h₀ : ExceptHandler} {hs : List ExceptHandler} {np pos pos' : Pos}
variable {H0 : Hp} {M : Addr → Prop} {L : LL} {σ : L2.St} {nx : L2.St → LL → Prop} {rt : V → LL → Prop} {bk ct : L2.St → LL → Prop}
theorem ks_try (Pst : Value → Option Addr → LL → Prop) (bd : Body X P w K mg base k N Nv sc) (ns : Ns X N Nv) (fr : Fr1 X) (hi : N[i]? = some n) (hl : sc.names.lookup n = some .local) (hc : mg x = some c) (hg : sc.names.lookup x = some .globalImplicit)
    (hb : ∀ X' : Cx, Body X' P w K mg base k N Nv sc → Ns X' N Nv → L2N.Takes X' (fun cls d _ H' => ∃ L', Hs H0 M L' H' ∧ Pst cls d L') → kb X' H0 M body nx rt bk ct σ L)
    (he : ∀ (cls : Value) (d : Option Addr) (σ' : L2.St) (L' : LL), Pst cls d L' → PySem.W.exmOne K cls c = some true ∧ ∀ (a : Addr) (oe : Obj) (pn : List (Addr × Obj)), L2N.Zn cls d oe → (∃ vs, oe.data = .fields vs) →
      kb (X.suite a ((a, oe) :: pn)) H0 M (b₀ :: suite) (fun σ2 L2 => nx (σ2.set i none) L2) rt (fun σ2 L2 => bk (σ2.set i none) L2) (fun σ2 L2 => ct (σ2.set i none) L2) (σ'.set i (some (.ref a))) L')
    (hdb : (x == ("__debug__" : Str)) = false := by decide) :
    ks X H0 M (.Try body [.ExceptHandler (some (.Name x np)) (some n) (b₀ :: suite) pos'] [] [] pos) nx rt bk ct σ L := by
  have hN : X.N.Nodup := by rw [ns.eq]; exact ns.nd
  have hi' : X.N[i]? = some n := by rw [ns.eq]; exact hi
  have hln : X.env.kindOf n = some .local := by rw [fr.lo, bd.scope]; exact hl
  have nmC : Names X x c := ⟨bd.gl hg, hdb, .inl (bd.no hc)⟩
  have tk0 : L2N.Takes X (fun _ _ _ _ => False) := fun u s' ⟨_, _, _, _, _, _, _, _, _, _, _, _, _, _, _, _, f⟩ => f.elim
  refine ks_of (L2N.ps_try_as (tb := fun W D σ H => ∀ pn xe, L2N.Takes (X.tr pn xe) W → PassesOwn (model X.prog X.w) X.A X.env xe → wb (X.tr pn xe) body D σ H)
    (ts := fun a cls d D σ H => ∀ oe pn, L2N.Zn cls d oe → (∃ vs, oe.data = .fields vs) → wb (X.suite a ((a, oe) :: pn)) (b₀ :: suite) D σ H) (Wout := fun _ _ _ _ => False) fr.st fr.fr hN hi' hln nmC tk0
    (fun W pn xe tk own => ⟨fun pins s σ H D I h => h pn xe tk own pins s I⟩) (fun a oe cls d pn hz hf => ⟨fun pins s σ H D I h => h oe pn hz hf pins s I⟩)) fun H z pn xe tk own => ?_
  refine hb (X.tr pn xe) (bd.tr own) (Ns.tr ns) (tk.imp fun cls d σ' H' ⟨L', z', q⟩ => ?_) H z
  obtain ⟨e1, e2⟩ := he cls d σ' L' q
  exact ⟨true, by rw [bd.K]; exact e1, fun _ a na oe pn hz hf => e2 a oe pn hz hf H' z', fun f => nomatch f⟩
theorem ks_try0 (bd : Body X P w K mg base k N Nv sc) (ns : Ns X N Nv) (hb : ∀ X' : Cx, Body X' P w K mg base k N Nv sc → Ns X' N Nv → kb X' H0 M body nx rt bk ct σ L) : ks X H0 M (.Try body (h₀ :: hs) [] [] pos) nx rt bk ct σ L :=
  ks_of (ps_try_thru0 pb_wb) fun H z => hb X.nox bd.nx (Ns.nx ns) H z
end

/-! ### a def that is asked about what was caught -/
theorem hot1_suite {X : Cx} {a : Addr} {oe : Obj} {pn : List (Addr × Obj)} {D : Value} {d : Option Addr} (hz : L2N.Zn D d oe) (hf : ∃ vs, oe.data = .fields vs) : L2H.Hot1 (X.suite a pn).A (a, oe) :=
  let ⟨vs, hv⟩ := hf; ⟨rfl, vs, hv, hz.2.2 vs hv⟩
/-- the exception stands in the context -/
structure BodE (X : Cx) (P : Program) (w : World) (K : PySem.W.Frag) (mg : Str → Option Value) (base : Heap) (N Nv : List Str) (sc : Scope) (D a : Addr) : Prop where
  prog : X.prog = P
  w : X.w = w
  K : X.K = K
  mg : X.mg = mg
  nm : Nm X N Nv
  scope : X.env.scope = sc
  pin : ∃ oe, (a, oe) ∈ X.pn ∧ L2N.Zn (.ref D) none oe ∧ ∃ vs, oe.data = .fields vs
  hot : L2H.HotC X
/-- called with a caught exception of the class D, the def answers r -/
structure FkE (P : Program) (w : World) (K : PySem.W.Frag) (mg : Str → Option Value) (base : Heap) (k : Nat) (f : Addr) (fd : FuncData) (ps : List Str) (D : Addr) (r : V) : Prop where
  len : ps.length = 1
  go : ∀ (A : Around) (out : List Env) (s : Shared) (H : Hp) (a : Addr) (oe : Obj) (Q : VK), L2H.RoomH k A → Env0 P w K mg base A out s H → L2H.PinOk out H s (a, oe) → L2H.Hot1 A (a, oe) → L2N.Zn (.ref D) none oe → (∃ vs, oe.data = .fields vs) →
    BindsTo s fd ⟨[.ref a], []⟩ (ps.zip [.ref a]) → (∀ H', Ext H H' → Q r H') → codeAny (model P w) A (.call (.ref f) ⟨[.ref a], []⟩) (CR CX0 out P w H s Q E0) s
theorem fke_of {P : Program} {w : World} {K : PySem.W.Frag} {mg : Str → Option Value} {base : Heap} {k : Nat} {f : Addr} {fd : FuncData} {x qual : Str} {st : Stmt} {ss : List Stmt} {N Nv ps : List Str} {D : Addr} {r : V} (F : Fun K x qual st f fd) (S : FnScope N ps (defScope st))
    (l : ∀ x ∈ Nv, (defScope st).names.lookup x = some .local ∨ (defScope st).names.lookup x = some .cell) (p : ∀ x ∈ Nv, (x == ("__debug__" : Str)) = false ∧ (x == ("__classdict__" : Str)) = false) (eb : defBody st = ss) (len : ps.length = 1)
    (hb : ∀ (X : Cx) (a : Addr) (H : Hp), BodE X P w K mg base N Nv (defScope st) D a → kb X H (fun _ => False) ss (fun _ _ => False) (fun v _ => v = r) (fun _ _ => False) (fun _ _ => False) (start N [.ref a]) []) : FkE P w K mg base (k + 1) f fd ps D r := by
  obtain ⟨oc, od, kV, doc, pm, an, cdv, ct, osl, efd, lk, hcode⟩ := F.ex
  subst efd
  refine ⟨len, fun A out s H a oe Q hr e0 hpin hot hz hf bnd hQ => ?_⟩
  have KX : K.In s.heap := e0.mod.kin.keeps fun b o e => (e0.bs b o e).1
  have lim : s.heap.NoLimit := e0.mod.nolimit.keeps fun b o e => (e0.bs b o e).1
  have rv : Vals [V.ref a] [Value.ref a] := .cons rfl .nil
  have known : ∀ y ∈ ps.zip [Value.ref a], (defScope st).names.lookup y.1 = some .local ∨ ((defScope st).names.lookup y.1 = some .cell ∧ ((cellsFrom (s.heap.objs.size + 1) (defScope st).names []).lookup y.1).isSome = true) := by
    rintro ⟨n, v⟩ hy
    exact (S.par n (List.of_mem_zip hy).1).imp id fun q => ⟨q, PySem.W.cellsFrom_some _ _ _ (.inl q)⟩
  refine codeAny_call_function hr.depth (KX f _ lk) rfl S.co S.gen rfl (PySem.W.codeRec_of KX hcode) (bnd _ _ _ _ ?_)
  refine wpAny_newFunctionEnv_cells S.kind known fun env eenv s1 inn => ?_
  subst eenv
  refine ⟨lim.keeps inn.toInCall.keep, codeAny_func ?_⟩
  have I : Inv (L2H.cxH CX0 P w K mg base N qual (defScope st) f cdv A out s H E0 (a, oe)) [] (start N [.ref a]) H s1 := L2H.inv_startH S hpin e0 (by rw [len]; rfl) rv inn
  have be : BodE (L2H.cxH CX0 P w K mg base N qual (defScope st) f cdv A out s H E0 (a, oe)) P w K mg base N Nv (defScope st) D a :=
    ⟨rfl, rfl, rfl, rfl, ⟨rfl, fun x m => (l x m).elim .inl fun z => .inr (.inl z), p⟩, rfl, ⟨oe, List.mem_cons_self, hz, hf⟩, ⟨(a, oe), hot, List.mem_cons_self⟩⟩
  have body := hb _ a H be H (Hs.s0) [] s1 I
  show wpAny _ _ (execs (defBody st) _) _ _ _
  rw [eb]
  refine wpAny_mono body (fun fl s2 hs => ?_) fun e s2 hs => hs
  cases fl with
  | ret u =>
    obtain ⟨v, σ2, H2, J, rv2, L2, z2, ev⟩ := hs
    subst ev
    exact ⟨v, H2, J.os, J.bare, J.base, J.hok, rv2, hQ H2 z2.ext0⟩
  | next => obtain ⟨_, _, _, _, _, z⟩ := hs; exact z.elim
  | brk => obtain ⟨_, _, _, _, _, z⟩ := hs; exact z.elim
  | cont => obtain ⟨_, _, _, _, _, z⟩ := hs; exact z.elim
/-- .. the def of the module called x -/
structure DefE (P : Program) (w : World) (K : PySem.W.Frag) (mg : Str → Option Value) (base : Heap) (k : Nat) (x : Str) (D : Addr) (r : V) : Prop where
  ex : ∃ f fd ps, FkE P w K mg base k f fd ps D r ∧ mg x = some (.ref f) ∧ PySem.W.keepIn K (.ref f) = true ∧ Binds K fd ps []
theorem FunM.okE {P : Program} {w : World} {K : PySem.W.Frag} {mg : Str → Option Value} {base : Heap} {k : Nat} {x : Str} {st : Stmt} {ps : List Str} {D : Addr} {r : V} (F : FunM K mg x st) (b : ∀ f fd, Fun K x x st f fd → Binds K fd ps []) (h : ∀ f fd, Fun K x x st f fd → FkE P w K mg base k f fd ps D r) : DefE P w K mg base k x D r := by
  obtain ⟨f, fd, F, hm⟩ := F.ex
  exact ⟨f, fd, ps, h f fd F, hm, F.kp, b f fd F⟩
section
variable {X : Cx} {P : Program} {w : World} {K : PySem.W.Frag} {mg : Str → Option Value} {base : Heap} {k j : Nat} {N Nv : List Str} {sc : Scope} {x n : Str} {D a : Addr} {oe : Obj} {pn : List (Addr × Obj)} {r : V}
variable {H0 : Hp} {M : Addr → Prop} {L : LL} {σ : L2.St} {Q : V → LL → Prop} {p p2 pos : Pos} {nx : L2.St → LL → Prop} {rt : V → LL → Prop} {bk ct : L2.St → LL → Prop} {i : Nat}
/-- return f(e), in the except suite -/
theorem kb_retE (bd : Body X P w K mg base k N Nv sc) (De : DefE P w K mg base j x D r) (hj : Nat.ble j k = true) (hg : sc.names.lookup x = some .globalImplicit) (hz : L2N.Zn (.ref D) none oe) (hf : ∃ vs, oe.data = .fields vs) (hi : N[i]? = some n) (mn : n ∈ Nv)
    (h : rt r L) (hdb : (x == ("__debug__" : Str)) = false := by decide) : kb (X.suite a ((a, oe) :: pn)) H0 M [.Return (some (.Call (.Name x p) [.Name n p2] [] pos)) pos'] nx rt bk ct (σ.set i (some (.ref a))) L := by
  refine kb_seq (ks_ret fun H z pins s I => ?_)
  obtain ⟨f, fd, ps, F, hm, hk, hb⟩ := De.ex
  rw [← bd.prog, ← bd.w, ← bd.K, ← bd.mg, ← bd.base] at F
  rw [← bd.mg] at hm
  rw [← bd.K] at hk hb
  have hr := bd.rm (Nat.le_of_ble_eq_true hj)
  have hlt : i < σ.length := by
    have e1 := I.len
    rw [List.length_set] at e1
    rw [e1]
    have e2 : X.N[i]? = some n := by rw [bd.nm.eq]; exact hi
    exact (List.getElem?_eq_some_iff.mp e2).1
  have vn : Vis (X.suite a ((a, oe) :: pn)).env.scope n := bd.nm.vis n mn
  have hN : (X.suite a ((a, oe) :: pn)).N[i]? = some n := by rw [← bd.nm.eq] at hi; exact hi
  have ar : ka (X.suite a ((a, oe) :: pn)) H0 M [.Name n p2] (σ.set i (some (.ref a))) L fun vs L1 => vs = [.ref a] ∧ L1 = L :=
    ka_cons rfl (ke_var i vn hN (by rw [List.getElem?_set_self hlt]) (ka_nil ⟨rfl, rfl⟩) (bd.nm.plain n mn).1 (bd.nm.plain n mn).2)
  refine wpAny_Call_Name_kw (ld_glob I (bd.gl hg) hm ?_ hdb)
  refine PySem.W.callWith_K (h₀ := X.base) I.ok.mod.kin hk (thn (ar H z pos pins s I) fun us s1 ⟨vs, H1, I1, rv, L1, z1, ev, eL⟩ => ⟨I1.kIn, ?_⟩) rfl rfl
  subst ev eL
  cases rv with
  | cons r0 rt0 =>
    cases rt0
    obtain rfl : _ = Value.ref a := r0
    have P1 := I1.pin (a, oe) (List.mem_append_left _ List.mem_cons_self)
    have hpin : L2H.PinOk X.stack H1 s1 (a, oe) := ⟨P1.1, P1.2.1, fun hm2 => (List.mem_cons.mp (I1.stkSub a hm2)).elim P1.2.2.1 P1.2.2.2.1, P1.2.2.2.2⟩
    have b1 := hb s1 [.ref a] I1.kIn (by rw [List.append_nil]; exact F.len.symm)
    rw [List.append_nil] at b1
    have hr2 : L2H.RoomH j (X.suite a ((a, oe) :: pn)).A := ⟨hr.dp, hr.un⟩
    refine wpAny_call (codeAny_mono (F.go (X.suite a ((a, oe) :: pn)).A X.stack s1 H1 a oe (fun v H' => v = r ∧ ∃ L', Hs H0 M L' H' ∧ rt v L') hr2 I1.env0 hpin (hot1_suite hz hf) hz hf b1 fun H' e' => ⟨rfl, _, z1.ext e', h⟩) fun res s3 hq => ?_)
    rcases res with er | fl
    · exact hq.elim
    · cases fl with
      | ret u =>
        obtain ⟨v, H', J, rv2, _, q⟩ := I1.after hq
        exact ⟨v, H', J, rv2, q⟩
      | next => exact hq.elim
      | brk => exact hq.elim
      | cont => exact hq.elim
end
/-! ### isinstance of what was caught -/
def rIsX (K : PySem.W.Frag) (D a : Addr) : List V → Hp → VK → Prop := fun vs H Q =>
  (∃ (c : V) (u : Value) (b : Bool), vs = [.ref a, c] ∧ ClsV c u ∧ PySem.W.kitOne K (.ref D) u = some b ∧ Q (.bl b) H) ∨
  (∃ (tp : Addr) (cs : List V) (us : List Value) (b : Bool), vs = [.ref a, .ref tp] ∧ H tp = some (.tup cs) ∧ Paired ClsV cs us ∧ PySem.W.kitAny K (.ref D) us = some b ∧ Q (.bl b) H)
theorem cr_isX {X : Cx} {a D : Addr} {oe : Obj} (C : ExcC X.K D) (hp : (a, oe) ∈ X.pn) (hz : L2N.Zn (.ref D) none oe) (hf : ∃ vs, oe.data = .fields vs) : CallR X (.builtin "isinstance") (rIsX X.K D a) := by
  intro pins s σ H xs us Q I r h
  have inst : PySem.W.InstAt s.heap a oe D none := by
    obtain ⟨hget, _⟩ := I.pin (a, oe) (List.mem_append_left _ hp)
    obtain ⟨vs, hv⟩ := hf
    obtain ⟨oc, od, oda, osl⟩ := oe
    obtain ⟨h1, h2, _⟩ := hz
    dsimp only at h1 h2 hv
    subst h1 h2 hv
    exact ⟨hget, rfl, rfl, trivial⟩
  have kit := PySem.W.handS_kitx_exc (ox := oe) (x := a) C.hg C.hk C.hs C.hd C.ha C.hn C.ht C.hm
  rcases h with ⟨c, u, b, rfl, k, e, q⟩ | ⟨tp, cs, ws, b, rfl, hT, k, e, q⟩
  · obtain ⟨u1, u2, rfl, r1, r2⟩ := vals2 r
    have e1 : u1 = Value.ref a := r1
    have e2 := k.eq r2
    subst e1 e2
    exact PySem.W.kia_one kit I.kIn inst e (fun z => nomatch z) fun tk => ⟨.bl b, H, I.tok tk, rfl, q⟩
  · obtain ⟨u1, u2, rfl, r1, r2⟩ := vals2 r
    have e1 : u1 = Value.ref a := r1
    have e2 : u2 = Value.ref tp := r2
    subst e1 e2
    obtain ⟨_, its, rv, o, h1, h2, n, h3⟩ := (show ObjOk X.prog X.w H s.heap tp (.tup cs) from I.hok tp _ hT)
    have e3 := ClsV.all k rv
    subst e3
    obtain ⟨oc, od, dt, sl⟩ := o
    simp only at h2 h3
    subst h2 h3
    exact PySem.W.kia_tup kit I.kIn inst h1 e (fun z => nomatch z) fun tk => ⟨.bl b, H, I.tok tk, rfl, q⟩
theorem boI : bootBuiltins ("isinstance" : Str) = some (.builtin "isinstance") := by decide +kernel
/-- names of classes of the module -/
inductive CNs (mg : Str → Option Value) (sc : Scope) : List Expr → List Addr → Prop where
  | nil : CNs mg sc [] []
  | cons {x : Str} {p : Pos} {C : Addr} {es : List Expr} {Cs : List Addr} (hm : mg x = some (.ref C)) (hg : sc.names.lookup x = some .globalImplicit) (hd : (x == ("__debug__" : Str)) = false) (t : CNs mg sc es Cs) : CNs mg sc (.Name x p :: es) (C :: Cs)
section
variable {X : Cx} {P : Program} {w : World} {K : PySem.W.Frag} {mg : Str → Option Value} {base : Heap} {N Nv : List Str} {sc : Scope} {x n : Str} {D a C : Addr} {b : Bool}
variable {H0 : Hp} {M : Addr → Prop} {L : LL} {σ : L2.St} {QT : Bool → LL → Prop} {p p2 p3 p4 pos : Pos} {es : List Expr} {Cs : List Addr}
theorem BodE.gl (b : BodE X P w K mg base N Nv sc D a) (h : sc.names.lookup x = some .globalImplicit) : Gl X x := by
  show X.env.scope.names.lookup x = some .globalImplicit
  rw [b.scope]; exact h
theorem BodE.no (b : BodE X P w K mg base N Nv sc D a) {x : Str} {o : Option Value} (h : mg x = o) : X.mg x = o := by rw [b.mg]; exact h
theorem BodE.ka (be : BodE X P w K mg base N Nv sc D a) (c : CNs mg sc es Cs) : ka X H0 M es σ L fun vs L1 => vs = Cs.map V.ref ∧ L1 = L := by
  induction c with
  | nil => exact ka_nil ⟨rfl, rfl⟩
  | cons hm hg hd t ih =>
    rename_i C1 _ _
    refine ka_cons rfl (ke_c (pe_glob (v := .ref C1) (be.gl hg) (be.no hm) rfl hd) fun H z => wa_mono (ih H z) fun vs H1 ⟨L1, z1, e1, e2⟩ => ⟨L1, z1, ?_⟩)
    subst e1 e2
    exact ⟨rfl, rfl⟩
theorem pairedC : ∀ Cs : List Addr, Paired ClsV (Cs.map V.ref) (Cs.map Value.ref)
  | [] => .nil
  | C :: Cs => .cons (.own C) (pairedC Cs)
theorem BodE.rc (be : BodE X P w K mg base N Nv sc D a) (c : ExcC K D) {xs : List V} {Q : V → LL → Prop} (h : ∀ H, Hs H0 M L H → rIsX K D a xs H (up H0 M Q)) : rc X H0 M (.builtin "isinstance") xs L Q := by
  obtain ⟨oe, hp, hz, hf⟩ := be.pin
  have c' : ExcC X.K D := by rw [be.K]; exact c
  exact rc_of (cr_isX c' hp hz hf) fun H z => by rw [be.K]; exact h H z
/-- isinstance(e, C) -/
theorem BodE.is1 (be : BodE X P w K mg base N Nv sc D a) (c : ExcC K D) (gi : sc.names.lookup ("isinstance" : Str) = some .globalImplicit) (mi : mg ("isinstance" : Str) = none) (mn : n ∈ Nv) (l : Lk N σ n (.ref a)) (hm : mg x = some (.ref C)) (hg : sc.names.lookup x = some .globalImplicit) (hd : (x == ("__debug__" : Str)) = false)
    (hk : PySem.W.kitOne K (.ref D) (.ref C) = some b) (h : QT b L) : kt X H0 M (.Call (.Name "isinstance" p) [.Name n p2, .Name x p3] [] pos) σ L QT := by
  refine kt_val (fun _ => rfl) (ke_callB (id := "isinstance") (be.gl gi) (be.no mi) boI rfl rfl (ka_cons rfl (ke_nm be.nm mn l (ka_cons rfl (ke_c (pe_glob (v := .ref C) (be.gl hg) (be.no hm) rfl hd) (ka_nil ?_))))))
  exact be.rc c fun H z => .inl ⟨.ref C, .ref C, b, rfl, .own C, hk, L, z, b, rfl, h⟩
/-- isinstance(e, T), T a built-in class -/
theorem BodE.isB {T : String} (be : BodE X P w K mg base N Nv sc D a) (c : ExcC K D) (gi : sc.names.lookup ("isinstance" : Str) = some .globalImplicit) (mi : mg ("isinstance" : Str) = none) (mn : n ∈ Nv) (l : Lk N σ n (.ref a)) (hm : mg x = none) (hv : bootBuiltins x = some (.type T)) (hn : x ≠ "__name__") (hg : sc.names.lookup x = some .globalImplicit) (hd : (x == ("__debug__" : Str)) = false)
    (hk : PySem.W.kitOne K (.ref D) (.type T) = some b) (h : QT b L) : kt X H0 M (.Call (.Name "isinstance" p) [.Name n p2, .Name x p3] [] pos) σ L QT := by
  refine kt_val (fun _ => rfl) (ke_callB (id := "isinstance") (be.gl gi) (be.no mi) boI rfl rfl (ka_cons rfl (ke_nm be.nm mn l (ka_cons rfl (ke_c (pe_bltn (v := .ty T) (be.gl hg) (be.no hm) hv rfl hn hd) (ka_nil ?_))))))
  exact be.rc c fun H z => .inl ⟨.ty T, .type T, b, rfl, .ty T, hk, L, z, b, rfl, h⟩
/-- isinstance(e, (C, ..)) -/
theorem BodE.isT {x1 : Nat} (be : BodE X P w K mg base N Nv sc D a) (c : ExcC K D) (gi : sc.names.lookup ("isinstance" : Str) = some .globalImplicit) (mi : mg ("isinstance" : Str) = none) (mn : n ∈ Nv) (l : Lk N σ n (.ref a)) (hc : CNs mg sc es Cs) (hl : Nat.ble Cs.length 1000 = true)
    (hk : PySem.W.kitAny K (.ref D) (Cs.map Value.ref) = some b) (h : ∀ L', QT b L') : kt X H0 M (.Call (.Name "isinstance" p) [.Name n p2, .Tuple es x1 p3] [] pos) σ L QT := by
  refine kt_val (fun _ => rfl) (ke_callB (id := "isinstance") (be.gl gi) (be.no mi) boI rfl rfl (ka_cons rfl (ke_nm be.nm mn l (ka_cons rfl (ke_tup fun H z => wa_mono (be.ka hc H z) fun vs H1 ⟨L1, z1, e1, e2⟩ => ⟨L1, z1, ?_⟩)))))
  subst e1 e2
  refine ⟨by rw [List.length_map]; exact Nat.le_trans (Nat.le_of_ble_eq_true hl) (by decide), fun q nq => ka_nil ?_⟩
  exact be.rc c fun H z => .inr ⟨q, _, _, b, rfl, z.get .here, pairedC Cs, hk, _, z, b, rfl, h _⟩
end
end Xi

/-! ## Pl -/
/-! For plans: fifth powers, insert, dicts of ints. -/
namespace Xi
open PySem PySem.Spec PyProof.Rows L2
section
variable {X : Cx} {H0 : Hp} {M : Addr → Prop} {L : LL} {Q : V → LL → Prop}
theorem ro_powW5 {i : Int} {n : Nat} (hb : i.natAbs < 2 ^ n) (h9 : n ≤ 9000) (h : Q (.int (i ^ 5)) L) : ro X H0 M (binaryOp .Pow) (.int i) (.int 5) L Q :=
  ro_of op_powW fun _ z => ⟨i, 5, rfl, rfl, ⟨by decide, by
    have := intBits_le hb
    show (Builtin.Int.intBits i : Int) * 5 ≤ 134217728
    omega⟩, L, z, h⟩
/-- o.insert(i, e), i not below 0 -/
theorem ke_ins {o a e : Expr} {σ : L2.St} {pos apos : Pos} (hbase : attributeBase o "insert" X.env (eval o X.env) = eval o X.env) (hfew : ((backTo pos (starEach [a, e] X.env)).all (fun x => !x.1) && (backToKw pos (keywordEach [] X.env)).all (fun x => x.1.isSome)
      && decide (([a, e] : List Expr).length + ([] : List Keyword).length + (if ([] : List Keyword).isEmpty then 0 else 1) < 30)) = true) (hline : (apos.endLine == pos.line) = true) (hs : starEach [a, e] X.env = (false, eval a X.env) :: starEach [e] X.env) (hs2 : starEach [e] X.env = (false, eval e X.env) :: starEach [] X.env) (hpl : (backTo pos (starEach [e] X.env)).any (·.1) = false)
    (h : ke X H0 M o σ L fun x L1 => ∃ q ys, x = .ref q ∧ At L1 q (.lst ys) ∧ ke X H0 M a σ L1 fun u L2 => ke X H0 M e σ L2 fun v L3 => ∃ (i : Int) (xs : List V) (g : HO → LL), u = .int i ∧ Spot L3 q (.lst xs) g ∧ (H0 q = none ∨ M q) ∧ xs.length < sizeLine ∧ 0 ≤ i ∧ i < 2 ^ 63 ∧ Q .non (g (.lst (xs.take i.toNat ++ [v] ++ xs.drop i.toNat)))) :
    ke X H0 M (.Call (.Attribute o "insert" apos) [a, e] [] pos) σ L Q := fun H z =>
  we_of (pe_bm PySem.F.plainAttrs_list PySem.F.slot_list_insert PySem.F.type_list_insert mt_insert pe_we (pa_cons pe_we (pa_cons pe_we pa_nil hs2) hs) hbase hfew hline hs hpl)
    (we_mono (h H z) fun x H1 ⟨L1, z1, q, ys, ex, ia, k⟩ => by
      subst ex
      exact ⟨.inl ⟨rfl, ys, z1.sq ia⟩, we_mono (k H1 z1) fun u H2 ⟨L2, z2, k2⟩ => we_mono (k2 H2 z2) fun v H3 ⟨L3, z3, i, xs, g, eu, sp, c, hl, h0, h1, r⟩ => ⟨q, xs, i, v, rfl, by rw [eu], z3.at_ _ sp.mem, hl, h0, h1, _, z3.put sp c, r⟩⟩)
end
end Xi

/-! ## Rp -/
/-! repr(None), repr of a truth value; sorted of two numbers. -/
namespace Xi
open PySem PySem.Spec PyProof.Rows L2
section
variable {X : Cx} {H0 : Hp} {M : Addr → Prop} {L : LL} {Q : V → LL → Prop}
theorem call_reprN : CallR X (.builtin "repr") (fun xs H Q => xs = [.non] ∧ Q (.str "None") H) := by
  intro pins s σ H xs us Q I r h
  obtain ⟨rfl, q⟩ := h
  cases r with | cons r1 t => cases t; cases r1; exact PySem.P.repr_of_none ⟨.str _, H, I.tok _, ⟨_, rfl⟩, q⟩
theorem call_reprB : CallR X (.builtin "repr") (fun xs H Q => ∃ b : Bool, xs = [.bl b] ∧ Q (.str (if b then "True" else "False")) H) := by
  intro pins s σ H xs us Q I r h
  obtain ⟨b, rfl, q⟩ := h
  cases r with | cons r1 t => cases t; cases r1; exact PySem.P.repr_of_bool ⟨.str _, H, I.tok _, ⟨_, by cases b <;> rfl⟩, q⟩
theorem rc_reprN (h : Q (.str "None") L) : rc X H0 M (.builtin "repr") [.non] L Q := rc_of call_reprN fun H z => ⟨rfl, L, z, h⟩
theorem rc_reprB {b : Bool} (h : Q (.str (if b then "True" else "False")) L) : rc X H0 M (.builtin "repr") [.bl b] L Q := rc_of call_reprB fun H z => ⟨b, rfl, L, z, h⟩
end
theorem sort_two {a b : Int} {os : List Int} (h : a ≤ b) (p : os.Perm [a, b] ∨ os.Perm [b, a]) (s : os.Pairwise (· ≤ ·)) : os = [a, b] := by
  have hl : os.length = 2 := by rcases p with p | p <;> exact p.length_eq
  have hm : ∀ j, j ∈ os ↔ j = a ∨ j = b := fun j => by
    rcases p with p | p
    · rw [p.mem_iff]; simp
    · rw [p.mem_iff]; simp; exact or_comm
  match os, hl, s, hm with
  | [u, v], _, s, hm =>
    have s1 := (List.pairwise_cons.mp s).1 v (by simp)
    have u1 := (hm u).mp (by simp)
    have v1 := (hm v).mp (by simp)
    have a1 := (hm a).mpr (.inl rfl)
    have b1 := (hm b).mpr (.inr rfl)
    simp only [List.mem_cons, List.not_mem_nil, or_false] at a1 b1
    have e1 : u = a := by omega
    have e2 : v = b := by omega
    rw [e1, e2]
theorem Body.asgT {X : Cx} {P : Program} {w : World} {K : PySem.W.Frag} {mg : Str → Option Value} {base : Heap} {k : Nat} {N Nv : List Str} {sc : Scope} {H0 : Hp} {M : Addr → Prop} {L : LL} {σ : L2.St} {tg e : Expr} {pos : Pos} {nx : L2.St → LL → Prop} {rt : V → LL → Prop} {bk ct : L2.St → LL → Prop} (bd : Body X P w K mg base k N Nv sc)
    (hs : ∀ env : Env, env.scope = sc → swapsWithSole [tg] e pos.line env = pure false) (hw : ∀ env : Env, env.scope = sc → swappedStores [tg] e env = pure none) (h1 : (assignEach [tg] X.env).map (·.2) = [assign tg X.env])
    (h : ke X H0 M e σ L fun v L1 => kg X H0 M tg v σ L1 nx) : ks X H0 M (.Assign [tg] e pos) nx rt bk ct σ L := ks_asg (hs _ bd.scope) (hw _ bd.scope) h1 h
/-- x, y, z = a, b, c, local names -/
theorem ks_par3 {X : Cx} {H0 : Hp} {M : Addr → Prop} {L : LL} {σ : L2.St} {N Nv : List Str} {x y z : Str} {a b c : Expr} {px py pz pt pos : Pos} {kt k2 pt2} {nx : L2.St → LL → Prop} {rt : V → LL → Prop} {bk ct : L2.St → LL → Prop} (n : Ns X N Nv) (hc : X.calm = true) (mx : x ∈ N) (my : y ∈ N) (mz : z ∈ N) (hxy : (x == y) = false) (hxz : (x == z) = false) (hyz : (y == z) = false)
    (hx : X.env.scope.names.lookup x = some .local) (hy : X.env.scope.names.lookup y = some .local) (hz : X.env.scope.names.lookup z = some .local)
    (hw : swappedStores [.Tuple [.Name x px, .Name y py, .Name z pz] kt pt] (.Tuple [a, b, c] k2 pt2) X.env = pure (some [x, y, z]))
    (hs : swapsWithSole [.Tuple [.Name x px, .Name y py, .Name z pz] kt pt] (.Tuple [a, b, c] k2 pt2) pos.line X.env = pure false)
    (h : ka X H0 M [a, b, c] σ L fun vs L1 => ∃ v w u, vs = [v, w, u] ∧ Pq N σ x v fun σ1 => Pq N σ1 y w fun σ2 => Pq N σ2 z u fun σ3 => nx σ3 L1) : ks X H0 M (.Assign [.Tuple [.Name x px, .Name y py, .Name z pz] kt pt] (.Tuple [a, b, c] k2 pt2) pos) nx rt bk ct σ L := by
  obtain ⟨i, hi⟩ := List.getElem?_of_mem mx
  obtain ⟨j, hj⟩ := List.getElem?_of_mem my
  obtain ⟨l, hl⟩ := List.getElem?_of_mem mz
  rw [← n.eq] at hi hj hl
  have ne : ∀ {i j : Nat} {x y : Str}, X.N[i]? = some x → X.N[j]? = some y → (x == y) = false → i ≠ j := fun hi hj hxy e => by
    subst e
    rw [hi] at hj
    cases hj
    rw [beq_self_eq_true] at hxy
    cases hxy
  refine ks_of (ps_par3 hc (by rw [n.eq]; exact n.nd) hi hj hl (ne hi hj hxy) (ne hi hl hxz) (ne hj hl hyz) hx hy hz pa_wa hw hs) fun H z => wa_mono (h H z) fun vs H1 ⟨L1, z1, v, w, u, ev, σ1, p1, σ2, p2, σ3, p3, k⟩ => ⟨v, w, u, ev, L1, z1, ?_⟩
  show nx (((σ.set i (some v)).set j (some w)).set l (some u)) L1
  rw [n.ix hi p1, n.ix hj p2, n.ix hl p3]
  exact k
theorem Body.par3 {X : Cx} {P : Program} {w : World} {K : PySem.W.Frag} {mg : Str → Option Value} {base : Heap} {k : Nat} {sc : Scope} {H0 : Hp} {M : Addr → Prop} {L : LL} {σ : L2.St} {N Nv : List Str} {x y z : Str} {a b c : Expr} {px py pz pt pos : Pos} {kt k2 pt2} {nx : L2.St → LL → Prop} {rt : V → LL → Prop} {bk ct : L2.St → LL → Prop} (bd : Body X P w K mg base k N Nv sc) (n : Ns X N Nv) (mx : x ∈ N) (my : y ∈ N) (mz : z ∈ N) (hxy : (x == y) = false) (hxz : (x == z) = false) (hyz : (y == z) = false)
    (hx : sc.names.lookup x = some .local) (hy : sc.names.lookup y = some .local) (hz : sc.names.lookup z = some .local)
    (hw : ∀ env : Env, env.scope = sc → swappedStores [.Tuple [.Name x px, .Name y py, .Name z pz] kt pt] (.Tuple [a, b, c] k2 pt2) env = pure (some [x, y, z]))
    (hs : swapsWithSole [.Tuple [.Name x px, .Name y py, .Name z pz] kt pt] (.Tuple [a, b, c] k2 pt2) pos.line X.env = pure false)
    (h : ka X H0 M [a, b, c] σ L fun vs L1 => ∃ v w u, vs = [v, w, u] ∧ Pq N σ x v fun σ1 => Pq N σ1 y w fun σ2 => Pq N σ2 z u fun σ3 => nx σ3 L1) : ks X H0 M (.Assign [.Tuple [.Name x px, .Name y py, .Name z pz] kt pt] (.Tuple [a, b, c] k2 pt2) pos) nx rt bk ct σ L :=
  ks_par3 n bd.calm mx my mz hxy hxz hyz (by rw [bd.scope]; exact hx) (by rw [bd.scope]; exact hy) (by rw [bd.scope]; exact hz) (hw _ bd.scope) hs h
end Xi

/-! ## Pl2 -/
/-! {elt for tg in iter}, elt an int. -/
namespace Xi
open PySem PySem.Spec PyProof.Rows L2 PpSet
section
variable {X : Cx}
/-- an int is put into a tracked set -/
theorem addI_ok {pins : List (Addr × Obj)} {σ : L2.St} {H : Hp} {s : Shared} {E : Value → Shared → Prop} {D : Addr} {S : Int → Bool} {n : Nat} {k : Int} {v : Value} {Q : Value → Shared → Prop} (I : Inv X pins σ H s) (hD : H D = some (SetO X.w D S n)) (room : n + 1 < scanBound) (rv : RelV (.int k) v)
    (h : ∀ s', Inv X pins σ (upd H D (SetO X.w D (fun j => S j || decide (j = k)) (if S k = true then n else n + 1))) s' → Q .none s') : wpAny (model X.prog X.w) X.A (call (.builtin "set.add") [.ref D, v]) Q E s := by
  obtain ⟨tk, rfl⟩ := rv
  refine setR_add (setO_get I hD) room fun h' sb new => ?_
  have he : ∃ u, h'.get? D = some u := let ⟨o, _, _, _, ho, _⟩ := new; ⟨o, ho⟩
  exact h _ (I.write (e := D) (t' := s.toks + 1) (by rw [hD]; trivial) (.inl rfl) (fun b u hb hu => (sb.2 b hb).trans hu) he (setO_new new))
/-- the turns of such a comprehension: D the new set -/
def tSi (w : World) (wi : TI) (g : TG) (te : TE) (vs : List Nat) : TE := fun σ H Q => wi σ H fun J H1 => ∀ D, H1 D = none → ∃ W : Nat → Nat → Hp → Prop, (∃ m, W 0 m (upd H1 D (SetO w D (fun _ => false) 0))) ∧ ∀ i m H, W i m H →
  (J.stop i H ∧ Q (.ref D) H) ∨ (J.go i H ∧ ∃ Nx : Hp → Prop, (∀ H', Nx H' → ∃ m', m' < m ∧ W (i + 1) m' H') ∧ ∀ x H', J.yld i H x H' → g x (wipe σ vs) H' fun σ2 H2 => wipe σ2 vs = wipe σ vs ∧
    te σ2 H2 fun y H4 => ∃ (k : Int) (S : Int → Bool) (n : Nat), y = .int k ∧ H4 D = some (SetO w D S n) ∧ n + 1 < scanBound ∧ Nx (upd H4 D (SetO w D (fun j => S j || decide (j = k)) (if S k = true then n else n + 1))))
theorem pe_si {elt tg iter : Expr} {scope : Scope} {own : List (Str × Nat)} {pos : Pos} {wi : TI} {g : TG} {te : TE} (hc : X.calm = true) (hN : X.N.Nodup) (hi : PI X tg iter wi) (ok : BlkOk X.N X.env.scope scope own)
    (hg : ∀ (s : Shared) (H : Hp) (C : Addr) (cl : List (Str × Addr)) (fp : List Addr), PG (X.blk s H scope (compEnvC scope cl C X.env) fp) tg g)
    (he : ∀ (s : Shared) (H : Hp) (C : Addr) (cl : List (Str × Addr)) (fp : List Addr), PE (X.blk s H scope (compEnvC scope cl C X.env) fp) elt te) (hs : ∀ x, foldedSetIterable iter X.env x = pure x) :
    PE X (.SetComp elt [⟨tg, iter, [], 0⟩] scope pos) (tSi X.w wi g te (own.map (·.2))) := by
  refine ⟨fun pins s σ H Q I h => ?_⟩
  rw [eval_SetComp]
  have cells : ∀ y ∈ scope.names, y.2 = .free → ∃ c, X.env.cells.lookup y.1 = some c := fun y hy e => I.ok.has _ ((ok.free y hy e).imp id id)
  refine wpAny_comprehension_free (use := none) rfl hs (closure_ok cells) ok.kind (fun y hy e => by rw [ok.uniq y hy, e]) (thn (hi.run pins s σ H _ I h) fun xv s1 hx => thn hx fun itv s2 ⟨it, fp, tn, J, H2, e, I2, T, st2, f2, q⟩ => ?_)
  subst e
  refine newSet_ok (newEnv_comp ?_)
  obtain ⟨D, hD⟩ : ∃ D, s2.heap.objs.size = D := ⟨_, rfl⟩
  rw [hD]
  have nD : H2 D = none := I2.hok.fresh (Nat.le_of_eq hD)
  obtain ⟨W, ⟨m0, w0⟩, turn⟩ := q D nD
  generalize hs3 : ({ s2 with heap := s2.heap.push { cls := .type "set", dict := none, data := .set #[] 0 (.fresh 0 0 (!X.w.params.followText "set-order")) } } : Shared) = s3
  have h3 : s3.heap = s2.heap.push { cls := .type "set", dict := none, data := .set #[] 0 (.fresh 0 0 (!X.w.params.followText "set-order")) } := by rw [← hs3]
  have I3 : Inv X pins σ (upd H2 D (SetO X.w D (fun _ => false) 0)) s3 := by
    rw [← hs3]
    refine I2.laid (t' := s2.toks) (fun b o e => Heap.get?_push_of_some _ e) (Nat.le_of_eq hD) ?_
    rw [← hD]
    exact setO_new (setR_fresh X.w)
  have f3 : ∀ b ∈ fp, FpOk X pins (upd H2 D (SetO X.w D (fun _ => false) 0)) b ∧ b < s3.heap.objs.size := fun b hb => by
    obtain ⟨o, e, _⟩ := T.obj _ _ st2 b hb
    have lt := Heap.lt_size e
    refine ⟨⟨?_, (f2 b hb).2⟩, by rw [h3, Heap.size_push]; exact Nat.lt_succ_of_lt lt⟩
    rw [upd_ne (by rw [← hD]; exact Nat.ne_of_lt lt)]
    exact (f2 b hb).1
  have st3 : tn 0 s3.heap := T.keep _ _ _ st2 fun b _ o e => by rw [h3]; exact Heap.get?_push_of_some _ e
  have I4 := block_start I3 ok hN f3
  obtain ⟨cl, ecl⟩ : ∃ cl, cellsFrom (s3.heap.objs.size + 1) scope.names (cloFrom X.env.cells scope.names []) = cl := ⟨_, rfl⟩
  obtain ⟨H3, eH3⟩ : ∃ H3, upd H2 D (SetO X.w D (fun _ => false) 0) = H3 := ⟨_, rfl⟩
  rw [ecl, eH3] at I4
  rw [eH3] at I3 w0 f3
  have pg := hg s3 H3 s3.heap.objs.size cl fp
  have pe := he s3 H3 s3.heap.objs.size cl fp
  show codeAny _ _ (.compStart (.SetComp elt [⟨tg, iter, [], 0⟩] scope pos) 0 (.ref it) (.ref D) (compEnvC scope (cellsFrom (s3.heap.objs.size + 1) scope.names (cloFrom X.env.cells scope.names [])) s3.heap.objs.size X.env)) (compPost (model X.prog X.w) X.A X.xe _ _ (.ref D) s3.heap.objs.size) { s3 with heap := pushCells (s3.heap.push { cls := .type "dict", data := .dict #[] }) scope.names }
  rw [ecl]
  generalize hs4 : ({ s3 with heap := pushCells (s3.heap.push { cls := .type "dict", data := .dict #[] }) scope.names } : Shared) = s4 at I4 ⊢
  have st4 : tn 0 s4.heap := T.keep _ _ _ st3 fun b _ o e => by rw [← hs4]; exact pushCells_keeps _ _ _ _ (Heap.get?_push_of_some _ e)
  have stat : ∀ {σ' : L2.St} {H' : Hp} {s' : Shared}, Inv (X.blk s3 H3 scope (compEnvC scope cl s3.heap.objs.size X.env) fp) [] σ' H' s' → (∀ b ∈ fp, H' b = none) → ∀ b ∈ fp, FpOk (X.blk s3 H3 scope (compEnvC scope cl s3.heap.objs.size X.env) fp) [] H' b := fun {σ' H' s'} I' hn b hb =>
    ⟨hn b hb, (I'.ok.exf b hb).1, I'.ok.exfs b hb, .inl hb, fun x c e => (I'.ok.exf b hb).2 x c e, fun p hp => absurd (show p ∈ ([] : List (Addr × Obj)) ++ [] from hp) (by simp)⟩
  refine codeAny_compStart_set (?loop : codeAny _ _ _ _ s4) (T.self X.A 0 _ _ _ st4 ?loop)
  refine compLoopS_any (fun n s' => ∃ i H', Inv (X.blk s3 H3 scope (compEnvC scope cl s3.heap.objs.size X.env) fp) [] (wipe σ (own.map (·.2))) H' s' ∧ tn i s'.heap ∧ (∀ b ∈ fp, H' b = none) ∧ W i n H') ?_ m0 ⟨0, H3, I4, st4, fun b hb => (f3 b hb).1.1, w0⟩
  rintro n s5 ⟨i, H5, I5, st5, n5, w5⟩
  rcases turn i n H5 w5 with ⟨stop, qq⟩ | ⟨go, Nx, hNx, step⟩
  · refine thnF (T.done (X.blk s3 H3 scope (compEnvC scope cl s3.heap.objs.size X.env) fp) rfl rfl rfl hc i [] s5 _ H5 (fun _ _ => False) I5 (stat I5 n5) st5 stop) fun r s6 ⟨hr, I6⟩ => ?_
    subst hr
    have I7 : Inv X pins σ H5 s6 := I3.call' (ch := fp) I6.os I6.base I6.hok I6.bare fun b hb => ⟨(f3 b hb).1.2.2.2.1, (f3 b hb).1.2.1, (f3 b hb).1.2.2.2.2.1, (f3 b hb).1.2.2.2.2.2⟩
    have nC : H5 s3.heap.objs.size = none := I6.free
    obtain ⟨m, hn, _⟩ := I6.loc
    have hn : s6.heap.Ns s3.heap.objs.size m := hn
    refine ⟨m, hn, fun h'' sb => ?_⟩
    obtain ⟨g0, g1, g2, g3, g4, g5⟩ := I3.fpOk (Nat.le_refl _) nC
    exact ⟨.ref D, H5, I7.turned (t' := s6.toks) (fun b o hb e => (sb.2 b hb).trans e) g0 g1 g3 g4 g5, rfl, qq⟩
  · refine thnF (T.item (X.blk s3 H3 scope (compEnvC scope cl s3.heap.objs.size X.env) fp) rfl rfl rfl hc i [] s5 _ H5 (fun _ _ => False) I5 (stat I5 n5) st5 go) fun r s6 ⟨u, hr, h6⟩ => ?_
    subst hr
    refine thnF h6 fun _ s7 ⟨x, H7, I7, r7, y7, st7, n7⟩ => ?_
    have I7' := I7.pinned (stat I7 n7) (T.obj _ _ st7)
    refine thnF (pg.run _ s7 _ H7 x u _ I7' r7 (step x H7 y7)) fun _ s8 ⟨σ8, H8, I8, hw8, q8⟩ => ?_
    refine thnF ((pts_nil (X := X.blk s3 H3 scope (compEnvC scope cl s3.heap.objs.size X.env) fp)).run _ s8 σ8 H8 (fun b H9 => b = true ∧ H9 = H8) I8 ⟨rfl, rfl⟩) fun b s9 ⟨H9, I9, eb, eH⟩ => ?_
    subst eb eH
    rw [if_pos rfl]
    refine thnF (pe.run _ s9 σ8 H9 _ I9 q8) fun z s10 ⟨yv, H10, I10, r10, k, S0, n0, ey, hD10, hz10, nx⟩ => ?_
    subst ey
    refine addI_ok (X := X.blk s3 H3 scope (compEnvC scope cl s3.heap.objs.size X.env) fp) I10 hD10 hz10 r10 fun s11 I11 => ?_
    obtain ⟨m', hm, w'⟩ := hNx _ nx
    have pin' : ∀ b ∈ fp, ∀ o, s7.heap.get? b = some o → s11.heap.get? b = some o ∧ _ = none := fun b hb o e =>
      let z := I11.pin (b, o) (List.mem_append_right _ (List.mem_append_right _ (mem_pinsAt hb e)))
      ⟨z.1, z.2.1⟩
    have hl : (wipe σ (own.map (·.2))).length = σ8.length := by rw [← hw8, wipe_length]
    refine ⟨m', hm, i + 1, _, (I11.unpinned (pins := [])).weak hl (fun j v e => ?_), T.keep _ _ _ st7 fun b hb o e => (pin' b hb o e).1, fun b hb => ?_, w'⟩
    · rw [← hw8] at e
      exact (wipe_some e).1
    · obtain ⟨o, e, _⟩ := T.obj _ _ st7 b hb
      exact (pin' b hb o e).2
end
section
variable {X : Cx} {elt tg iter : Expr} {scope : Scope} {pos : Pos} {H0 : Hp} {M : Addr → Prop} {L : LL} {σ : L2.St} {Q : V → LL → Prop} {P : Program} {w : World} {K : PySem.W.Frag} {mg : Str → Option Value} {base : Heap} {k : Nat} {N Nv Nw : List Str} {sc : Scope}
theorem Body.si (bd : Body X P w K mg base k N Nv sc) (ns : Ns X N Nw) (own : List (Str × Nat)) (Nb No : List Str) (ok : BlkOk N sc scope own) (vis : ∀ x ∈ Nb, (relS scope sc).names.lookup x = some .local ∨ (relS scope sc).names.lookup x = some .cell ∨ (relS scope sc).names.lookup x = some .free) (pl : ∀ x ∈ Nb, (x == ("__debug__" : Str)) = false ∧ (x == ("__classdict__" : Str)) = false)
    (lc : ∀ x ∈ No, (relS scope sc).names.lookup x = some .local) (hs : ∀ x, foldedSetIterable iter X.env x = pure x)
    (h : ki X H0 M tg iter σ L fun J L1 => ∀ D, H0 D = none → ∃ (n : Nat) (G : LL → Prop) (Y : Nat → LL → V → LL → Prop) (I : Nat → LL → Prop), Walks H0 M n G Y J ∧ I 0 ((D, SetO w D (fun _ => false) 0) :: L1) ∧ (∀ i L, i ≤ n → I i L → G L) ∧
      (∀ i x L L', i < n → I i L → Y i L x L' → ∀ B, Body B P w K mg base k N Nb (relS scope sc) → Ns B N No → kg B H0 M tg x (wipe σ (own.map (·.2))) L' fun σ2 L2 => wipe σ2 (own.map (·.2)) = wipe σ (own.map (·.2)) ∧ ∀ B, Body B P w K mg base k N Nb (relS scope sc) →
        ke B H0 M elt σ2 L2 fun y L4 => ∃ (k : Int) (S : Int → Bool) (m : Nat) (g : HO → LL), y = .int k ∧ Spot L4 D (SetO w D S m) g ∧ m + 1 < scanBound ∧ ∃ L6, Sub L6 (g (SetO w D (fun j => S j || decide (j = k)) (if S k = true then m else m + 1))) ∧ I (i + 1) L6) ∧ ∀ L, I n L → Q (.ref D) L) :
    ke X H0 M (.SetComp elt [⟨tg, iter, [], 0⟩] scope pos) σ L Q := fun H z => by
  have hN : X.N.Nodup := by rw [ns.eq]; exact ns.nd
  have hok : BlkOk X.N X.env.scope scope own := by rw [ns.eq, bd.scope]; exact ok
  refine we_of (pe_si (own := own) (g := wg' X scope tg) (te := we' X scope elt) bd.calm hN pi_wi hok (fun s H C cl fp => ⟨fun pins s' σ H' v u Q I r h => h _ ⟨s, H, C, cl, fp, rfl⟩ pins s' u I r⟩) (fun s H C cl fp => ⟨fun pins s' σ H' Q I h => h _ ⟨s, H, C, cl, fp, rfl⟩ pins s' I⟩) hs) ?_
  rw [bd.w]
  refine wi_mono (h H z) fun J H1 ⟨L1, z1, kk⟩ D nD => ?_
  obtain ⟨n, G, Y, I, wk, i0, hG, st, en⟩ := kk D (z1.fresh nD)
  refine ⟨fun i m H => m = n - i ∧ i ≤ n ∧ ∃ L, Hs H0 M L H ∧ I i L, ⟨n, rfl, Nat.zero_le n, _, z1.new nD, i0⟩, ?_⟩
  rintro i m H2 ⟨em, hi, L2, z2, iv⟩
  by_cases lt : i < n
  · refine .inr ⟨wk.goes i L2 H2 lt (hG i L2 hi iv) z2, fun H' => ∃ L, Hs H0 M L H' ∧ I (i + 1) L, fun H' ⟨L', z', iv'⟩ => ⟨n - (i + 1), by omega, rfl, lt, L', z', iv'⟩, fun x H3 y => ?_⟩
    obtain ⟨L3, z3, y3⟩ := wk.yields i L2 H2 x H3 lt (hG i L2 hi iv) z2 y
    intro B hB
    refine wg_mono (fun pins s u I r => st i x L2 L3 lt iv y3 B (bd.blk hB vis pl) (Ns.blk bd ns hB lc) H3 z3 pins s u I r) fun σ2 H4 ⟨L4, z4, e4, q4⟩ => ⟨e4, ?_⟩
    intro B' hB'
    refine we_mono (q4 B' (bd.blk hB' vis pl) H4 z4) fun y H6 ⟨L6, z6, kv, S, mm, g, ey, sp, hm, L7, sb, iv7⟩ => ?_
    exact ⟨kv, S, mm, ey, z6.at_ _ sp.mem, hm, L7, (z6.put sp (.inl (z1.fresh nD))).sub sb, iv7⟩
  · have e : i = n := by omega
    subst e
    exact .inl ⟨wk.stops L2 H2 (hG _ L2 hi iv) z2, L2, z2, en L2 iv⟩
/-- over a list; a turn lays nothing that stays -/
theorem Body.siL {α : Type} (v : α → V) (f : α → Int) (bd : Body X P w K mg base k N Nv sc) (ns : Ns X N Nw) (own : List (Str × Nat)) (Nb No : List Str) (ok : BlkOk N sc scope own) (vis : ∀ x ∈ Nb, (relS scope sc).names.lookup x = some .local ∨ (relS scope sc).names.lookup x = some .cell ∨ (relS scope sc).names.lookup x = some .free) (pl : ∀ x ∈ Nb, (x == ("__debug__" : Str)) = false ∧ (x == ("__classdict__" : Str)) = false)
    (lc : ∀ x ∈ No, (relS scope sc).names.lookup x = some .local) (hs : ∀ x, foldedSetIterable iter X.env x = pure x)
    (h : ke X H0 M iter σ L fun u L1 => ∃ (a : Addr) (is : List α), u = .ref a ∧ At L1 a (.lst (is.map v)) ∧ is.length ≤ 200 ∧
      (∀ x ∈ is, ∀ D acc, H0 D = none → ∀ B, Body B P w K mg base k N Nb (relS scope sc) → Ns B N No → kg B H0 M tg (v x) (wipe σ (own.map (·.2))) ((D, acc) :: L1) fun σ2 L2 => wipe σ2 (own.map (·.2)) = wipe σ (own.map (·.2)) ∧
        ∀ B, Body B P w K mg base k N Nb (relS scope sc) → ke B H0 M elt σ2 L2 fun y L4 => y = .int (f x) ∧ Sub ((D, acc) :: L1) L4) ∧
      ∀ D (c : Nat), H0 D = none → c ≤ is.length → ((is.map f).Nodup → c = is.length) → Q (.ref D) ((D, SetO w D (fun j => decide (j ∈ is.map f)) c) :: L1)) :
    ke X H0 M (.SetComp elt [⟨tg, iter, [], 0⟩] scope pos) σ L Q := by
  refine Body.si bd ns own Nb No ok vis pl lc hs (ki_list fun H z => we_mono (h H z) fun u H1 ⟨L1, z1, a, is, eu, ia, hl, st, en⟩ => ⟨L1, z1, a, _, eu, ia, fun J wk D nD => ?_⟩)
  refine ⟨_, _, _, fun i L => ∃ c : Nat, L = (D, SetO w D (fun j => decide (j ∈ (is.take i).map f)) c) :: L1 ∧ c ≤ i ∧ (((is.take i).map f).Nodup → c = i), wk, ⟨0, ?_, Nat.le_refl _, fun _ => rfl⟩, ?_, ?_, ?_⟩
  · rw [List.take_zero]
    simp
  · rintro i L - ⟨c, rfl, -, -⟩
    exact .there ia
  · rintro i x L L' hi ⟨c, rfl, hc, hn⟩ ⟨rfl, hx⟩ B bB nB
    rw [List.getElem?_map] at hx
    obtain ⟨y, hy, rfl⟩ := Option.map_eq_some_iff.mp hx
    have hi2 : i < is.length := (List.getElem?_eq_some_iff.mp hy).1
    have tk : is.take (i + 1) = is.take i ++ [y] := take_snoc hy
    refine fun H z pins s u I r => wg_mono (fun pins s u I r => st y (List.mem_of_getElem? hy) D _ nD B bB nB H z pins s u I r) (fun σ2 H2 ⟨L2, z2, e2, q2⟩ => ⟨L2, z2, e2, fun B hB H z => we_mono (q2 B hB H z) fun v H3 ⟨L3, z3, ev, sb⟩ => ?_⟩) pins s u I r
    subst ev
    refine ⟨_, z3.sub sb, f y, _, c, _, rfl, .here, by unfold scanBound; omega, _, .refl _, (if f y ∈ (is.take i).map f then c else c + 1), ?_, ?_, ?_⟩
    · have e1 : (fun j => decide (j ∈ (is.take i).map f) || decide (j = f y)) = fun j => decide (j ∈ (is.take (i + 1)).map f) := by
        funext j
        rw [tk, List.map_append, Bool.eq_iff_iff]
        simp
      rw [e1]
      by_cases m : f y ∈ (is.take i).map f
      · rw [if_pos m, if_pos (decide_eq_true m)]
      · rw [if_neg m, if_neg (by rw [decide_eq_false m]; decide)]
    · split <;> omega
    · intro nd
      rw [tk, List.map_append] at nd
      have nd2 := List.nodup_append.mp nd
      have m : f y ∉ (is.take i).map f := fun m => (nd2.2.2 (f y) m (f y) (by simp)) rfl
      rw [if_neg m, hn nd2.1]
  · rintro L ⟨c, rfl, hc, hn⟩
    have := en D c nD (by rw [List.length_map] at hc; exact hc) (fun nd => by
      rw [List.length_map, List.take_length] at hn
      exact hn nd)
    rw [List.length_map, List.take_length]
    exact this
end
/-- len of a set of ints -/
theorem rc_lenSI {X : Cx} {H0 : Hp} {M : Addr → Prop} {L : LL} {Q : V → LL → Prop} {a : Addr} {S : Int → Bool} {n : Nat} (ia : At L a (SetO X.w a S n)) (hn : n ≤ 1000) (h : Q (.int n) L) : rc X H0 M (.builtin "len") [.ref a] L Q := fun H z pins s σ us I rv => by
  obtain ⟨u, rfl, ru⟩ : ∃ u, us = [u] ∧ RelV (V.ref a) u := by
    cases rv with
    | cons ru rn => cases rn with
      | nil => exact ⟨_, rfl, ru⟩
  obtain rfl : u = Value.ref a := ru
  obtain ⟨o, es, ep, t, ho, hex, hd, _, _, _, _, hf, en, _, _⟩ := setO_get I (z.get ia)
  refine call_len_set ho hex hd hf (by rw [en]; omega) ⟨.int n, H, I.tok _, ⟨_, by rw [en]⟩, L, z, h⟩
end Xi

/-! ## Pl3 -/
/-! Dicts whose keys are ints. -/
namespace Xi
open PySem PySem.Spec PyProof.Rows L2
section
variable {X : Cx} {H0 : Hp} {M : Addr → Prop} {L : LL} {σ : L2.St} {Q : V → LL → Prop} {P : Program} {w : World} {K : PySem.W.Frag} {mg : Str → Option Value} {base : Heap} {k : Nat} {N Nv Nw : List Str} {sc : Scope} {pos apos : Pos}
/-- d[y], there -/
theorem Body.dg {o i : Expr} (bd : Body X P w K mg base k N Nv sc) (hs : NoSl i) (h : ke X H0 M o σ L fun x L1 => ke X H0 M i σ L1 fun y L2 => ∃ (a : Addr) (kvs : List (Key × V)) (j : Int) (v : V), x = .ref a ∧ y = .int j ∧ At L2 a (.dK kvs) ∧ valV kvs (.inl j) = some v ∧ Q v L2) :
    ke X H0 M (.Subscript o i pos) σ L Q := fun H z =>
  have hu : X.A.units + 1 < cLine := by have := bd.room.un; omega
  we_of (pe_dget hu pe_we pe_we hs) (we_mono (h H z) fun x H1 ⟨L1, z1, kk⟩ => we_mono (kk H1 z1) fun y H2 ⟨L2, z2, a, kvs, j, v, ex, ey, ia, hv, q⟩ => ⟨a, v, ex, by rw [ey, ← hv]; exact DGet.k (k := .inl j) (z2.get ia), L2, z2, q⟩)
/-- y in d -/
theorem Body.din (bd : Body X P w K mg base k N Nv sc) {a : Addr} {kvs : List (Key × V)} {j : Int} (ia : At L a (.dK kvs)) (h : Q (.bl (valV kvs (.inl j)).isSome) L) : ro X H0 M (compareOp .In) (.int j) (.ref a) L Q :=
  have hu : X.A.units + 1 < cLine := by have := bd.room.un; omega
  ro_of (r := fun x y H Q => ∃ (a : Addr) (o : Option V), y = .ref a ∧ DGet H a x o ∧ Q (.bl o.isSome) H) (fun pins s σ H x y u v Q I rx ry ⟨a, o, ey, g, q⟩ => by
    subst ey
    obtain rfl : v = Value.ref a := ry
    exact d_in hu I g rx fun s' I' => ⟨.bl o.isSome, H, I', rfl, q⟩) fun H z => ⟨a, _, rfl, DGet.k (k := .inl j) (z.get ia), L, z, h⟩
/-- y not in d -/
theorem Body.dnin (bd : Body X P w K mg base k N Nv sc) {a : Addr} {kvs : List (Key × V)} {j : Int} (ia : At L a (.dK kvs)) (h : Q (.bl (!(valV kvs (.inl j)).isSome)) L) : ro X H0 M (compareOp .NotIn) (.int j) (.ref a) L Q :=
  have hu : X.A.units + 1 < cLine := by have := bd.room.un; omega
  ro_of (r := fun x y H Q => ∃ (a : Addr) (o : Option V), y = .ref a ∧ DGet H a x o ∧ Q (.bl (!o.isSome)) H) (fun pins s σ H x y u v Q I rx ry ⟨a, o, ey, g, q⟩ => by
    subst ey
    obtain rfl : v = Value.ref a := ry
    exact d_notIn hu I g rx fun s' I' => ⟨.bl (!o.isSome), H, I', rfl, q⟩) fun H z => ⟨a, _, rfl, DGet.k (k := .inl j) (z.get ia), L, z, h⟩
/-- d[y] = v -/
theorem Body.dput {o e : Expr} {v : V} {R : L2.St → LL → Prop} (bd : Body X P w K mg base k N Nv sc) (ha : ∀ v, assign (.Subscript o e pos) X.env v = (do
      let ov ← holding [v] (eval o X.env)
      let iv ← holding [v, ov] (eval e X.env)
      standAt pos
      holding [v, ov, iv] (setItem ov iv v)
      release [v, ov, iv] []))
    (h : ke X H0 M o σ L fun x L1 => ke X H0 M e σ L1 fun y L2 => ∃ (p : Addr) (kvs : List (Key × V)) (j : Int) (g : HO → LL), x = .ref p ∧ y = .int j ∧ Spot L2 p (.dK kvs) g ∧ (H0 p = none ∨ M p) ∧ kvs.length < sizeLine ∧ R σ (g (.dK (putK kvs (.inl j) v)))) : kg X H0 M (.Subscript o e pos) v σ L R :=
  have hu : X.A.units + 1 < cLine := by have := bd.room.un; omega
  kg_of (pg_sub pe_we pe_we (set_dict hu) ha) fun H z => we_mono (h H z) fun x H1 ⟨L1, z1, kk⟩ => we_mono (kk H1 z1) fun y H2 ⟨L2, z2, p, kvs, j, g, ex, ey, sp, c, hl, q⟩ => ⟨p, _, ex, by rw [ey]; exact DPut.k (k := .inl j) (z2.at_ _ sp.mem) hl, _, z2.put sp c, q⟩
/-- d.get(y, z) -/
theorem Body.dget2 {o e f : Expr} (bd : Body X P w K mg base k N Nv sc) (m : M2 X o "get" apos e f pos) (h : ke X H0 M o σ L fun x L1 => ∃ (a : Addr) (ks : List (Key × V)), x = .ref a ∧ At L1 a (.dK ks) ∧ ke X H0 M e σ L1 fun y L2 => ke X H0 M f σ L2 fun z L3 => ∃ (kvs : List (Key × V)) (j : Int), y = .int j ∧ At L3 a (.dK kvs) ∧ Q ((valV kvs (.inl j)).getD z) L3) :
    ke X H0 M (.Call (.Attribute o "get" apos) [e, f] [] pos) σ L Q := fun H z =>
  have hu : X.A.units + 1 < cLine := by have := bd.room.un; omega
  we_of (pe_dget2 hu pe_we pe_we pe_we m) (we_mono (h H z) fun x H1 ⟨L1, z1, a, ks, ex, ia, kk⟩ => ⟨a, ex, .inl ⟨ks, .inl (z1.get ia)⟩, we_mono (kk H1 z1) fun y H2 ⟨L2, z2, k2⟩ => we_mono (k2 H2 z2) fun z H3 ⟨L3, z3, kvs, j, ey, ib, q⟩ => ⟨_, by rw [ey]; exact DGet.k (k := .inl j) (z3.get ib), L3, z3, q⟩⟩)
/-- list(d) -/
theorem rc_listD {a : Addr} {kvs : List (Key × V)} (hc : X.calm = true) (ia : At L a (.dK kvs)) (h : ∀ p, H0 p = none → Q (.ref p) ((p, .lst (kvs.map fun kv => kV kv.1)) :: L)) : rc X H0 M (.type "list") [.ref a] L Q :=
  rc_of (call_listD hc) fun H z => ⟨a, kvs, rfl, .inl (z.get ia), fun p hp => ⟨_, z.new hp, h p (z.fresh hp)⟩⟩
/-- dict(d) -/
theorem rc_dictD {a : Addr} {kvs : List (Key × V)} (ia : At L a (.dK kvs)) (h : ∀ p, H0 p = none → Q (.ref p) ((p, .dK kvs) :: L)) : rc X H0 M (.type "dict") [.ref a] L Q :=
  rc_of call_dictD fun H z => ⟨a, kvs, rfl, .inl (z.get ia), fun p hp => ⟨_, z.new hp, h p (z.fresh hp)⟩⟩
/-- {} -/
theorem ke_dnew (h : ∀ p, H0 p = none → Q (.ref p) ((p, .dK []) :: L)) : ke X H0 M (.Dict [] [] pos) σ L Q := fun H z =>
  we_of pe_dnewK fun p hp => ⟨_, z.new hp, h p (z.fresh hp)⟩
end
section
variable {X : Cx} {kx vx tg iter : Expr} {ifs : List Expr} {scope : Scope} {pos : Pos} {H0 : Hp} {M : Addr → Prop} {L : LL} {σ : L2.St} {Q : V → LL → Prop} {P : Program} {w : World} {K : PySem.W.Frag} {mg : Str → Option Value} {base : Heap} {k : Nat} {N Nv Nw : List Str} {sc : Scope}
/-- the turns of a dict comprehension, the dict it makes -/
def kDc (X : Cx) (H0 : Hp) (M : Addr → Prop) (kx vx tg iter : Expr) (ifs : List Expr) (scope : Scope) (own : List (Str × Nat)) (σ : L2.St) (L : LL) (Q : V → LL → Prop) : Prop := ∀ H, Hs H0 M L H → tDc (wi X tg iter) (wg' X scope tg) (wt' X scope ifs) (we' X scope kx) (we' X scope vx) (own.map (·.2)) σ H (up H0 M Q)
theorem Body.kdc (bd : Body X P w K mg base k N Nv sc) (ns : Ns X N Nw) (own : List (Str × Nat)) (Nb No : List Str) (vis : ∀ x ∈ Nb, (relS scope sc).names.lookup x = some .local ∨ (relS scope sc).names.lookup x = some .cell ∨ (relS scope sc).names.lookup x = some .free) (pl : ∀ x ∈ Nb, (x == ("__debug__" : Str)) = false ∧ (x == ("__classdict__" : Str)) = false)
    (lc : ∀ x ∈ No, (relS scope sc).names.lookup x = some .local)
    (h : ki X H0 M tg iter σ L fun J L1 => ∀ D, H0 D = none → ∃ (n : Nat) (G : LL → Prop) (Y : Nat → LL → V → LL → Prop) (I : Nat → LL → Prop), Walks H0 M n G Y J ∧ I 0 ((D, .dK []) :: L1) ∧ (∀ i L, i ≤ n → I i L → G L) ∧
      (∀ i x L L', i < n → I i L → Y i L x L' → ∀ B, Body B P w K mg base k N Nb (relS scope sc) → Ns B N No → kg B H0 M tg x (wipe σ (own.map (·.2))) L' fun σ2 L2 => wipe σ2 (own.map (·.2)) = wipe σ (own.map (·.2)) ∧ ∀ B, Body B P w K mg base k N Nb (relS scope sc) → kf B H0 M ifs σ2 L2 fun b L3 =>
        if b = true then ∀ B, Body B P w K mg base k N Nb (relS scope sc) → ke B H0 M kx σ2 L3 fun y L4 => ∀ B, Body B P w K mg base k N Nb (relS scope sc) → ke B H0 M vx σ2 L4 fun v L5 => ∃ (j : Int) (kvs : List (Key × V)) (g : HO → LL), y = .int j ∧ Spot L5 D (.dK kvs) g ∧ kvs.length < sizeLine ∧ ∃ L6 L7, L6.Perm L7 ∧ Sub L7 (g (.dK (putK kvs (.inl j) v))) ∧ I (i + 1) L6
        else ∃ L6, Sub L6 L3 ∧ I (i + 1) L6) ∧ ∀ L, I n L → Q (.ref D) L) :
    kDc X H0 M kx vx tg iter ifs scope own σ L Q := fun H z => by
  refine wi_mono (h H z) fun J H1 ⟨L1, z1, kk⟩ D nD => ?_
  obtain ⟨n, G, Y, I, wk, i0, hG, st, en⟩ := kk D (z1.fresh nD)
  refine ⟨fun i m H => m = n - i ∧ i ≤ n ∧ ∃ L, Hs H0 M L H ∧ I i L, ⟨n, rfl, Nat.zero_le n, _, z1.new nD, i0⟩, ?_⟩
  rintro i m H2 ⟨em, hi, L2, z2, iv⟩
  by_cases lt : i < n
  · refine .inr ⟨wk.goes i L2 H2 lt (hG i L2 hi iv) z2, fun H' => ∃ L, Hs H0 M L H' ∧ I (i + 1) L, fun H' ⟨L', z', iv'⟩ => ⟨n - (i + 1), by omega, rfl, lt, L', z', iv'⟩, fun x H3 y => ?_⟩
    obtain ⟨L3, z3, y3⟩ := wk.yields i L2 H2 x H3 lt (hG i L2 hi iv) z2 y
    intro B hB
    refine wg_mono (fun pins s u I r => st i x L2 L3 lt iv y3 B (bd.blk hB vis pl) (Ns.blk bd ns hB lc) H3 z3 pins s u I r) fun σ2 H4 ⟨L4, z4, e4, q4⟩ => ⟨e4, ?_⟩
    refine wt'_up z4 (fun B hB => q4 B (bd.blk hB vis pl)) ⟨B, hB⟩ fun b L5 H5 z5 q5 => ?_
    cases b with
    | true =>
      rw [if_pos rfl] at q5 ⊢
      intro B' hB'
      refine we_mono (q5 B' (bd.blk hB' vis pl) H5 z5) fun y H6 ⟨L6, z6, q6⟩ => fun B'' hB'' => ?_
      refine we_mono (q6 B'' (bd.blk hB'' vis pl) H6 z6) fun v H7 ⟨L7, z7, j, kvs, g, ey, sp, hl, L8, L9, pm, sb, iv8⟩ => ?_
      exact ⟨kvs, .inl j, ey, z7.at_ _ sp.mem, hl, L8, ((z7.put sp (.inl (z1.fresh nD))).sub sb).perm pm, iv8⟩
    | false =>
      rw [if_neg (by decide)] at q5 ⊢
      obtain ⟨L6, sb, iv6⟩ := q5
      exact ⟨L6, z5.sub sb, iv6⟩
  · have e : i = n := by omega
    subst e
    exact .inl ⟨wk.stops L2 H2 (hG _ L2 hi iv) z2, L2, z2, en L2 iv⟩
/-- {k: v for tg in iter if ..}, k an int -/
theorem Body.dc (bd : Body X P w K mg base k N Nv sc) (ns : Ns X N Nw) (own : List (Str × Nat)) (ok : BlkOk N sc scope own) (hs : ∀ x, foldedSetIterable iter X.env x = pure x) (h : kDc X H0 M kx vx tg iter ifs scope own σ L Q) :
    ke X H0 M (.DictComp kx vx [⟨tg, iter, ifs, 0⟩] scope pos) σ L Q := fun H z => by
  have hN : X.N.Nodup := by rw [ns.eq]; exact ns.nd
  have hok : BlkOk X.N X.env.scope scope own := by rw [ns.eq, bd.scope]; exact ok
  exact we_of (pe_dc (own := own) (g := wg' X scope tg) (tt := wt' X scope ifs) (tk := we' X scope kx) (tv := we' X scope vx) bd.calm hN pi_wi hok (fun s H C cl fp => ⟨fun pins s' σ H' v u Q I r h => h _ ⟨s, H, C, cl, fp, rfl⟩ pins s' u I r⟩) (fun s H C cl fp => pts_wt' ifs)
    (fun s H C cl fp => ⟨fun pins s' σ H' Q I h => h _ ⟨s, H, C, cl, fp, rfl⟩ pins s' I⟩) (fun s H C cl fp => ⟨fun pins s' σ H' Q I h => h _ ⟨s, H, C, cl, fp, rfl⟩ pins s' I⟩) hs) (h H z)
theorem sw_trueD {gs : List Comprehension} {py : Pos} {y : Str} {l : Nat} {env : Env} (hk : env.scope.kind = .function) (hy : env.scope.names.lookup y = some .local) (hl : (py.line == pos.line) = true)
    (ha : (scope.names.any fun (n, k) => n == y && (k == .local || k == .cell)) = false) : swapsWith (.DictComp kx vx gs scope pos) (some (.Name y py)) l env = pure true := by
  have ky : env.kindOf y = some .local := hy
  have hb : env.blockKind = .function := by unfold Env.blockKind; rw [hk]; rfl
  unfold swapsWith
  simp only [hb, ky, ha, Expr.pos, hl]
  rfl
theorem ps_setDc {i : Nat} {y : Str} {py spos : Pos} {own : List (Str × Nat)} {wi : TI} {g : TG} {tt : TT} {tk tv : TE} (hc : X.calm = true) (hN : X.N.Nodup) (hy : X.N[i]? = some y) (hyl : X.env.scope.names.lookup y = some .local)
    (hsw : swapsWith (.DictComp kx vx [⟨tg, iter, ifs, 0⟩] scope pos) (some (.Name y py)) spos.line X.env = pure true) (hi : PI X tg iter wi) (ok : BlkOk X.N X.env.scope scope own)
    (hg : ∀ (s : Shared) (H : Hp) (C : Addr) (cl : List (Str × Addr)) (fp : List Addr), PG (X.blk s H scope (compEnvC scope cl C X.env) fp) tg g) (ht : ∀ (s : Shared) (H : Hp) (C : Addr) (cl : List (Str × Addr)) (fp : List Addr), PTs (X.blk s H scope (compEnvC scope cl C X.env) fp) ifs tt)
    (hk : ∀ (s : Shared) (H : Hp) (C : Addr) (cl : List (Str × Addr)) (fp : List Addr), PE (X.blk s H scope (compEnvC scope cl C X.env) fp) kx tk)
    (he : ∀ (s : Shared) (H : Hp) (C : Addr) (cl : List (Str × Addr)) (fp : List Addr), PE (X.blk s H scope (compEnvC scope cl C X.env) fp) vx tv) (hs : ∀ x, foldedSetIterable iter X.env x = pure x) :
    PS X (.Assign [.Name y py] (.DictComp kx vx [⟨tg, iter, ifs, 0⟩] scope pos) spos) (tAsg (tDc wi g tt tk tv (own.map (·.2))) (gName i)) := by
  refine ⟨fun pins s σ H D I h => ?_⟩
  rw [exec_Assign_Name_used _ _ _ _ hsw]
  refine wpAny_bind (wpAny_standAt (wpAny_bind ?_))
  show wpAny _ X.A (do let _ ← comprehension (.DictComp kx vx [⟨tg, iter, ifs, 0⟩] scope pos) scope X.env (firstIterPos [⟨tg, iter, ifs, 0⟩] pos) newDict false (eval iter X.env) (some (assign (.Name y py) X.env))) _ _ s
  have h : tDc wi g tt tk tv (own.map (·.2)) σ H (fun x H1 => gName i x σ H1 D.nx) := h
  refine wpAny_bind (thn (dc_core (Qf := fun _ s' => SP X pins D .next s') hc hN I hi ok hg ht hk he hs h fun L C s' m H' I' q hn f => ?_) fun _ s' hq => wpAny_pure (wpAny_pure hq))
  show wpAny _ _ (assign (.Name y py) X.env (.ref L)) _ _ _
  refine wpAny_assign_Name (store_ok2 (v := V.ref L) I' hN hy (.inl hyl) rfl (fun s2 I2 ⟨a, sb, ha⟩ => ?_) (.inr hyl))
  obtain ⟨f0, f1, f2, f3, f4, f5⟩ := f
  have haC : C ≠ a := by
    rcases ha with z | z
    · rw [z]; exact f1
    · exact fun e => f4 y a z e.symm
  refine ⟨m, hn.sameBut sb haC, fun h3 sb3 => ?_⟩
  exact ⟨_, H', I2.turned (t' := s2.toks) (fun b o hb e => (sb3.2 b hb).trans e) f0 f1 f3 f4 f5, q⟩
/-- name = {..} -/
theorem Body.setDc {py spos : Pos} {y : Str} {own : List (Str × Nat)} {nx : L2.St → LL → Prop} {rt : V → LL → Prop} {bk ct : L2.St → LL → Prop} (bd : Body X P w K mg base k N Nv sc) (ns : Ns X N Nw) (my : y ∈ N) (hy : sc.names.lookup y = some .local) (hk : sc.kind = .function) (hl : (py.line == pos.line) = true) (ha : (scope.names.any fun (n, k) => n == y && (k == .local || k == .cell)) = false) (ok : BlkOk N sc scope own) (hs : ∀ x, foldedSetIterable iter X.env x = pure x)
    (h : kDc X H0 M kx vx tg iter ifs scope own σ L fun v L1 => Pq N σ y v fun σ' => nx σ' L1) : ks X H0 M (.Assign [.Name y py] (.DictComp kx vx [⟨tg, iter, ifs, 0⟩] scope pos) spos) nx rt bk ct σ L := by
  obtain ⟨i, hi⟩ := List.getElem?_of_mem my
  rw [← ns.eq] at hi
  have hy' : X.env.scope.names.lookup y = some .local := by rw [bd.scope]; exact hy
  refine ks_of (ps_setDc (g := wg' X scope tg) (tt := wt' X scope ifs) (tk := we' X scope kx) (tv := we' X scope vx) bd.calm (by rw [ns.eq]; exact ns.nd) hi hy' (sw_trueD (by rw [bd.scope]; exact hk) hy' hl ha) pi_wi (by rw [ns.eq, bd.scope]; exact ok) (fun s H C cl fp => ⟨fun pins s' σ H' v u Q I r h => h _ ⟨s, H, C, cl, fp, rfl⟩ pins s' u I r⟩) (fun s H C cl fp => pts_wt' ifs)
    (fun s H C cl fp => ⟨fun pins s' σ H' Q I h => h _ ⟨s, H, C, cl, fp, rfl⟩ pins s' I⟩) (fun s H C cl fp => ⟨fun pins s' σ H' Q I h => h _ ⟨s, H, C, cl, fp, rfl⟩ pins s' I⟩) hs) fun H z => ?_
  refine wi_mono (h H z) fun J H1 q D nD => ?_
  obtain ⟨W, w0, turn⟩ := q D nD
  refine ⟨W, w0, fun i m H2 wv => (turn i m H2 wv).imp (fun ⟨st, L1, z1, σ', p, q⟩ => ⟨st, L1, z1, ?_⟩) id⟩
  dsimp only
  rw [ns.ix hi p]
  exact q
end
end Xi

/-! ## Pl4 -/
/-! A dict is walked over (its items), locked meanwhile; o.pop(0). -/
namespace Xi
open PySem PySem.Spec PyProof.Rows L2
section
variable {X : Cx} {H0 : Hp} {M : Addr → Prop} {L : LL} {σ : L2.St} {Q : V → LL → Prop} {e : Expr}
/-- the heap at the start, d locked -/
def lockH (H0 : Hp) (d : Addr) (u : HO) : Hp := if (H0 d).isSome = true then upd H0 d u else H0
theorem lockH_pos {d : Addr} {u v : HO} (h : H0 d = some v) : lockH H0 d u = upd H0 d u := if_pos (by rw [h]; rfl)
theorem lockH_neg {d : Addr} {u : HO} (h : H0 d = none) : lockH H0 d u = H0 := if_neg (by rw [h]; decide)
theorem lockH_none {d b : Addr} {u : HO} (h : lockH H0 d u b = none) : H0 b = none := by
  cases e0 : H0 d with
  | none => rw [lockH_neg e0] at h; exact h
  | some v =>
    rw [lockH_pos e0] at h
    by_cases e : b = d
    · subst e; rw [upd_same] at h; cases h
    · rw [upd_ne e] at h; exact h
theorem lockH_of {d b : Addr} {u : HO} (h : H0 b = none) : lockH H0 d u b = none := by
  cases e0 : H0 d with
  | none => rw [lockH_neg e0]; exact h
  | some v => rw [lockH_pos e0, upd_ne (fun e => by subst e; rw [h] at e0; cases e0)]; exact h
theorem ke_lock {d : Addr} {kvs : List (Key × V)} (ia : At L d (.dK kvs)) (c : ¬ M d) (L' : LL) (sb : Sub L' L) (ok : ∀ q ∈ L', ∀ ks, q.2 ≠ .dK ks)
    (h : ∀ o H1, (∀ b, H1 b = none ↔ H0 b = none) → ke X H1 M e σ ((d, .frz o (.dK kvs)) :: L') fun v L1 => ∃ L2, At L1 d (.frz o (.dK kvs)) ∧ Sub L2 L1 ∧ (∀ q ∈ L2, ∀ o u, q.2 ≠ .frz o u) ∧ Q v ((d, .dK kvs) :: L2)) : ke X H0 M e σ L Q := fun H z pins s I => by
  have hd : H d = some (.dK kvs) := z.get ia
  have hn := I.nofrz hd trivial
  obtain ⟨o, I1⟩ := I.lock hd trivial
  have key : ∀ b, lockH H0 d (.frz o (.dK kvs)) b = none ↔ H0 b = none := fun b => ⟨lockH_none, lockH_of⟩
  have ne : ∀ q ∈ L', q.1 ≠ d := fun q hq e => by
    have := z.at_ q (sb.subset hq)
    rw [e, hd] at this
    exact ok q hq kvs (Option.some.inj this).symm
  have z0 : Hs H0 M L' H := z.sub sb
  have z1 : Hs (lockH H0 d (.frz o (.dK kvs))) M ((d, .frz o (.dK kvs)) :: L') (upd H d (.frz o (.dK kvs))) := by
    refine ⟨List.pairwise_cons.mpr ⟨fun b hb => .inl fun e => ?_, z0.nd.imp fun w => w.imp id fun w => ⟨fun e => w.1 ((key _).1 e), w.2⟩⟩, fun q hq => ?_, fun b u q m => ?_, fun b m => ?_⟩
    · obtain ⟨q, hq, e2⟩ := List.mem_map.mp hb
      exact ne q hq (e2.trans e.symm)
    · rcases List.mem_cons.mp hq with e | hq
      · rw [e]; exact upd_same
      · rw [upd_ne (ne q hq)]; exact z0.at_ q hq
    · cases e0 : H0 d with
      | none =>
        rw [lockH_neg e0] at q
        rw [upd_ne (fun e => by subst e; rw [e0] at q; cases q)]
        exact z.fr b u q m
      | some v =>
        rw [lockH_pos e0] at q
        by_cases e : b = d
        · subst e; rw [upd_same] at q ⊢; exact q
        · rw [upd_ne e] at q ⊢; exact z.fr b u q m
    · rw [upd_ne (fun e => c (by subst e; exact m))]
      exact z.md b m
  refine thn (h o _ key _ z1 pins s I1) fun v s1 ⟨x, H1, I2, r, L1, z2, L2, ia2, sb2, ok2, q⟩ => ?_
  have hd1 : H1 d = some (.frz o (.dK kvs)) := z2.get ia2
  have ne2 : ∀ q ∈ L2, q.1 ≠ d := fun q hq e => by
    have := z2.at_ q (sb2.subset hq)
    rw [e, hd1] at this
    exact ok2 q hq _ _ (Option.some.inj this).symm
  have z3 := z2.sub sb2
  refine ⟨x, _, I2.unlock hd1 hn, r, (d, .dK kvs) :: L2, ⟨List.pairwise_cons.mpr ⟨fun b hb => .inl fun e => ?_, z3.nd.imp fun w => w.imp id fun w => ⟨fun e => w.1 ((key _).2 e), w.2⟩⟩, fun q hq => ?_, fun b u e0 m => ?_, fun b m => ?_⟩, q⟩
  · obtain ⟨q, hq, e2⟩ := List.mem_map.mp hb
    exact ne2 q hq (e2.trans e.symm)
  · rcases List.mem_cons.mp hq with e | hq
    · rw [e]; exact upd_same
    · rw [upd_ne (ne2 q hq)]; exact z3.at_ q hq
  · by_cases e : b = d
    · subst e
      rw [upd_same, ← hd]
      exact z.fr b u e0 m
    · rw [upd_ne e]
      refine z3.fr b u ?_ m
      cases e1 : H0 d with
      | none => rw [lockH_neg e1]; exact e0
      | some v => rw [lockH_pos e1, upd_ne e]; exact e0
  · rw [upd_ne (fun e => c (by subst e; exact m))]
    exact z3.md b m
/-- over d.items(), d locked -/
theorem ki_items {elts : List Expr} {kk : Nat} {tpos apos pos : Pos} {o : Expr} {R : It → LL → Prop} (hbase : attributeBase o "items" X.env (eval o X.env) = eval o X.env) (hline : (apos.endLine == pos.line) = true)
    (h : ke X H0 M o σ L fun x L1 => ∃ (d : Addr) (od : Obj) (kvs : List (Key × V)), x = .ref d ∧ At L1 d (.frz od (.dK kvs)) ∧ ∀ J, Walks H0 M kvs.length (fun L => At L d (.frz od (.dK kvs)))
      (fun i L x L' => ∃ (T : Addr) (kv : Key × V), x = .ref T ∧ H0 T = none ∧ kvs[i]? = some kv ∧ L' = (T, .tup [kV kv.1, kv.2]) :: L) J → R J L1) :
    ki X H0 M (.Tuple elts kk tpos) (.Call (.Attribute o "items" apos) [] [] pos) σ L R := fun H z =>
  wi_of (pi_items pe_we hbase hline) (we_mono (h H z) fun x H1 ⟨L1, z1, d, od, kvs, ex, ia, kk⟩ => ⟨d, od, kvs, ex, z1.get ia, L1, z1, kk _ ⟨
    fun i L H hi g z => walk_items.goes i H hi (z.get g), fun L H g z => walk_items.stops H (z.get g), fun i L H x H' hi g z y => by
    obtain ⟨T, u, w, h1, h2, h3, h4, h5⟩ := walk_items.yields i H x H' hi (z.get g) y
    obtain ⟨kv, e1, e2⟩ := Option.map_eq_some_iff.mp h4
    have h5 : Option.map Prod.snd kvs[i]? = some w := h5
    rw [e1] at h5
    have h5 : kv.2 = w := Option.some.inj h5
    subst h1 h3 e2 h5
    exact ⟨_, z.new h2, T, kv, rfl, z.fresh h2, e1, rfl⟩⟩⟩)
/-- o.pop(0) -/
theorem ke_pop0 {o a : Expr} {pos apos : Pos} (hbase : attributeBase o "pop" X.env (eval o X.env) = eval o X.env) (hfew : ((backTo pos (starEach [a] X.env)).all (fun x => !x.1) && (backToKw pos (keywordEach [] X.env)).all (fun x => x.1.isSome)
      && decide (([a] : List Expr).length + ([] : List Keyword).length + (if ([] : List Keyword).isEmpty then 0 else 1) < 30)) = true) (hline : (apos.endLine == pos.line) = true) (hs : starEach [a] X.env = (false, eval a X.env) :: starEach [] X.env) (hpl : (backTo pos (starEach [] X.env)).any (·.1) = false)
    (h : ke X H0 M o σ L fun x L1 => ∃ q ys, x = .ref q ∧ At L1 q (.lst ys) ∧ ke X H0 M a σ L1 fun u L2 => ∃ (v : V) (xs : List V) (g : HO → LL), u = .int 0 ∧ Spot L2 q (.lst (v :: xs)) g ∧ (H0 q = none ∨ M q) ∧ Q v (g (.lst xs))) :
    ke X H0 M (.Call (.Attribute o "pop" apos) [a] [] pos) σ L Q := fun H z =>
  we_of (pe_bm PySem.F.plainAttrs_list PySem.F.slot_list_pop PySem.F.type_list_pop mt_popAt pe_we (pa_cons pe_we pa_nil hs) hbase hfew hline hs hpl)
    (we_mono (h H z) fun x H1 ⟨L1, z1, q, ys, ex, ia, k⟩ => by
      subst ex
      exact ⟨.inl ⟨rfl, ys, z1.sq ia⟩, we_mono (k H1 z1) fun u H2 ⟨L2, z2, v, xs, g, eu, sp, c, r⟩ => ⟨q, v :: xs, 0, 0, v, rfl, by rw [eu], z2.at_ _ sp.mem, by decide, by decide, by simp [seqIndex?], rfl, _, z2.put sp c, r⟩⟩)
end
end Xi

/-! ## Pl5 -/
/-! A def changes more than one object. -/
namespace Xi
open PySem PySem.Spec PyProof.Rows L2
/-- the objects of cs stand so, N is new, all else stands -/
structure ChgM (H H' : Hp) (cs N : LL) : Prop where
  fr : ∀ b u, H b = some u → b ∉ cs.map (·.1) → H' b = some u
  at_ : ∀ q ∈ cs, H' q.1 = some q.2
  nw : News H H' N
def RetM (H : Hp) (Q : VK) (v : V) (cs N : LL) : Prop := ∀ H', ChgM H H' cs N → Q v H'
section
variable {H0 H H' : Hp} {M : Addr → Prop} {L N cs cs0 : LL} {Q : V → LL → Prop} {v : V}
/-- the caller goes on -/
theorem Hs.chgM (h : Hs H0 M (cs0 ++ L) H) (e : cs0.map (·.1) = cs.map (·.1)) (c : ∀ a ∈ cs.map (·.1), H0 a = none ∨ M a) (x : ChgM H H' cs N) : Hs H0 M (N ++ (cs ++ L)) H' := by
  have keys : (cs ++ L).map (·.1) = (cs0 ++ L).map (·.1) := by rw [List.map_append, List.map_append, e]
  have apart : ∀ q ∈ L, q.1 ∉ cs.map (·.1) := fun q hq hm => by
    have nd := h.nd
    rw [List.map_append] at nd
    have := (List.pairwise_append.mp nd).2.2 q.1 (by rw [e]; exact hm) q.1 (List.mem_map.mpr ⟨q, hq, rfl⟩)
    rcases this with z | z
    · exact z rfl
    · exact (c _ hm).elim z.1 z.2
  refine ⟨?_, fun q hq => ?_, fun b o z m => ?_, fun b m => ?_⟩
  · rw [List.map_append, keys]
    refine List.pairwise_append.mpr ⟨x.nw.nd.imp fun z => .inl z, h.nd, fun a ha b hb => .inl fun z => ?_⟩
    subst z
    obtain ⟨q, hq, rfl⟩ := List.mem_map.mp ha
    exact h.notin (x.nw.new q hq) hb
  · rcases List.mem_append.mp hq with hq | hq
    · exact x.nw.at_ q hq
    · rcases List.mem_append.mp hq with hq | hq
      · exact x.at_ q hq
      · exact x.fr _ _ (h.at_ q (List.mem_append_right _ hq)) (apart q hq)
  · refine x.fr b o (h.fr b o z m) fun hm => ?_
    rcases c b hm with w | w
    · rw [z] at w; cases w
    · exact m w
  · obtain ⟨o, z⟩ := h.md b m
    by_cases hm : b ∈ cs.map (·.1)
    · obtain ⟨q, hq, rfl⟩ := List.mem_map.mp hm
      exact ⟨_, x.at_ q hq⟩
    · exact ⟨o, x.fr b o z hm⟩
theorem Hs.mm (h : Hs H0 M (cs0 ++ L) H) (e : cs0.map (·.1) = cs.map (·.1)) (c : ∀ a ∈ cs.map (·.1), H0 a = none ∨ M a) (k : Q v (N ++ (cs ++ L))) : RetM H (up H0 M Q) v cs N := fun _ x => ⟨_, h.chgM e c x, k⟩
/-- the callee ends -/
theorem Hs.chgM0 (h : Hs H0 (fun x => x ∈ cs.map (·.1)) L H) (m : ∀ q ∈ cs, At L q.1 q.2) (n : News H0 H N) : ChgM H0 H cs N := ⟨fun b u e ne => h.fr b u e ne, fun q hq => h.get (m q hq), n⟩
/-- the entry: the objects of cs may change -/
theorem Hs.anyMs (nd : (cs.map (·.1)).Nodup) (ha : ∀ q ∈ cs, H q.1 = some q.2) (h : ∀ q ∈ L, H q.1 = some q.2) (n : ∀ q ∈ L, q.1 ∉ cs.map (·.1)) : Hs H (fun x => x ∈ cs.map (·.1)) (cs ++ L) H := by
  refine ⟨?_, fun q hq => ?_, fun _ _ e _ => e, fun b m => ?_⟩
  · rw [List.map_append]
    refine List.pairwise_append.mpr ⟨nd.imp fun z => .inl z, ?_, fun a ha b hb => .inl fun z => ?_⟩
    · rw [List.pairwise_map]
      exact List.pairwise_of_forall_mem_list (fun q hq r _ => .inr ⟨by rw [h q hq]; exact (fun z => nomatch z), n q hq⟩)
    · subst z
      obtain ⟨q, hq, rfl⟩ := List.mem_map.mp hb
      exact n q hq ha
  · rcases List.mem_append.mp hq with hq | hq
    · exact ha q hq
    · exact h q hq
  · obtain ⟨q, hq, rfl⟩ := List.mem_map.mp m
    exact ⟨_, ha q hq⟩
end
end Xi

/-! ## Rd -/
/-! Data with dicts in it; repr of any of them. -/
namespace Xi
open PySem PySem.Spec PyProof.Rows L2
/-- what is known of the heap -/
abbrev Kn := Addr → HO → Prop
def keyD : Key → PyData
  | .inl i => .int i
  | .inr x => .str x
mutual
inductive Dq (G : Kn) : V → PyData → Prop
  | non : Dq G .non .none
  | bl (b : Bool) : Dq G (.bl b) (.bool b)
  | int (i : Int) : Dq G (.int i) (.int i)
  | str (x : Str) : Dq G (.str x) (.str x)
  | lst {a : Addr} {xs : List V} {ds : List PyData} (e : G a (.lst xs)) (h : DqAll G xs ds) : Dq G (.ref a) (.list ds)
  | tup {a : Addr} {xs : List V} {ds : List PyData} (e : G a (.tup xs)) (h : DqAll G xs ds) : Dq G (.ref a) (.tuple ds)
  | dK {a : Addr} {kvs : List (Key × V)} {ps : List (PyData × PyData)} (e : G a (.dK kvs)) (h : DqKv G kvs ps) : Dq G (.ref a) (.dict ps)
inductive DqAll (G : Kn) : List V → List PyData → Prop
  | nil : DqAll G [] []
  | cons {v : V} {vs : List V} {d : PyData} {ds : List PyData} (h : Dq G v d) (t : DqAll G vs ds) : DqAll G (v :: vs) (d :: ds)
inductive DqKv (G : Kn) : List (Key × V) → List (PyData × PyData) → Prop
  | nil : DqKv G [] []
  | cons {k : Key} {v : V} {kvs : List (Key × V)} {d : PyData} {ps : List (PyData × PyData)} (h : Dq G v d) (t : DqKv G kvs ps) : DqKv G ((k, v) :: kvs) ((keyD k, d) :: ps)
end
mutual
theorem Dq.imp {G G' : Kn} (i : ∀ a o, G a o → G' a o) : ∀ (d : PyData) (v : V), Dq G v d → Dq G' v d
  | .none, _, h => by cases h; exact .non
  | .bool b, _, h => by cases h; exact .bl b
  | .int j, _, h => by cases h; exact .int j
  | .str x, _, h => by cases h; exact .str x
  | .list ds, _, h => by cases h with | lst e h => exact .lst (i _ _ e) (DqAll.imp i ds _ h)
  | .tuple ds, _, h => by cases h with | tup e h => exact .tup (i _ _ e) (DqAll.imp i ds _ h)
  | .dict ps, _, h => by cases h with | dK e h => exact .dK (i _ _ e) (DqKv.imp i ps _ h)
theorem DqAll.imp {G G' : Kn} (i : ∀ a o, G a o → G' a o) : ∀ (ds : List PyData) (vs : List V), DqAll G vs ds → DqAll G' vs ds
  | [], _, h => by cases h; exact .nil
  | d :: ds, _, h => by cases h with | cons h t => exact .cons (Dq.imp i d _ h) (DqAll.imp i ds _ t)
theorem DqKv.imp {G G' : Kn} (i : ∀ a o, G a o → G' a o) : ∀ (ps : List (PyData × PyData)) (kvs : List (Key × V)), DqKv G kvs ps → DqKv G' kvs ps
  | [], _, h => by cases h; exact .nil
  | (_, d) :: ps, _, h => by cases h with | cons h t => exact .cons (Dq.imp i d _ h) (DqKv.imp i ps _ t)
end
section
variable {X : Cx} {pins : List (Addr × Obj)} {σ : L2.St} {H : Hp} {s : Shared}
abbrev OnH (H : Hp) : Kn := fun a o => H a = some o
mutual
theorem Dq.reads (I : Inv X pins σ H s) : ∀ (d : PyData) (v : V) (u : Value), Dq (OnH H) v d → RelV v u → ∃ as, Reads s.heap u d as ∧ ∀ b ∈ as, ∃ o, H b = some o
  | .none, _, _, h, r => by cases h; cases r; exact ⟨_, Reads.none, by simp⟩
  | .bool b, _, _, h, r => by cases h; cases r; exact ⟨_, Reads.bool b, by simp⟩
  | .int i, _, _, h, r => by cases h; obtain ⟨t, rfl⟩ := r; exact ⟨_, Reads.int i t, by simp⟩
  | .str x, _, _, h, r => by cases h; obtain ⟨t, rfl⟩ := r; exact ⟨_, Reads.str x t, by simp⟩
  | .list ds, _, _, h, r => by
    cases h with
    | lst e ha =>
      cases r
      obtain ⟨its, rv, ⟨o, n, ho, hc, _, hd⟩, _⟩ := I.list (SqL.of (K := X.K) e)
      obtain ⟨as, hr, hk⟩ := DqAll.reads I ds _ its ha rv
      exact ⟨_, Reads.list ho hc hd hr, fun b hb => (List.mem_cons.mp hb).elim (fun z => by rw [z]; exact ⟨_, e⟩) (hk b)⟩
  | .tuple ds, _, _, h, r => by
    cases h with
    | tup e ha =>
      cases r
      obtain ⟨its, rv, ⟨o, ho, hc, n, hd⟩, _⟩ := I.tuple (SqT.of (K := X.K) e)
      obtain ⟨as, hr, hk⟩ := DqAll.reads I ds _ its ha rv
      exact ⟨_, Reads.tuple ho hc hd hr, hk⟩
  | .dict ps, _, _, h, r => by
    cases h with
    | dK e ha =>
      cases r
      obtain ⟨_, _, vs, rel, o, es, ep, ho, hx, hd, _, pr, _⟩ := dk_of I.hok e
      obtain ⟨as, bs, h1, h2, k1, k2⟩ := DqKv.reads I ps _ vs es.toList ha rel pr
      refine ⟨_, Reads.dict ho hx.1 hd h1 h2, fun b hb => ?_⟩
      rcases List.mem_append.mp hb with hb | hb
      · exact (List.mem_cons.mp hb).elim (fun z => by rw [z]; exact ⟨_, e⟩) (k1 b)
      · exact k2 b hb
theorem DqAll.reads (I : Inv X pins σ H s) : ∀ (ds : List PyData) (vs : List V) (us : List Value), DqAll (OnH H) vs ds → Vals vs us → ∃ as, ReadsAll s.heap us ds as ∧ ∀ b ∈ as, ∃ o, H b = some o
  | [], _, _, h, r => by cases h; cases r; exact ⟨_, ReadsAll.nil, by simp⟩
  | d :: ds, _, _, h, r => by
    cases h with
    | cons h1 h2 =>
      cases r with
      | cons r1 r2 =>
        obtain ⟨as, q1, k1⟩ := Dq.reads I d _ _ h1 r1
        obtain ⟨bs, q2, k2⟩ := DqAll.reads I ds _ _ h2 r2
        exact ⟨_, ReadsAll.cons q1 q2, fun b hb => (List.mem_append.mp hb).elim (k1 b) (k2 b)⟩
theorem DqKv.reads (I : Inv X pins σ H s) : ∀ (ps : List (PyData × PyData)) (kvs : List (Key × V)) (vs : List (Key × Value)) (es : List DictEntry), DqKv (OnH H) kvs ps → KV kvs vs → Pairs (mixKind X.prog X.w) es vs →
    ∃ as bs, ReadsAll s.heap (es.map (·.key)) (ps.map (·.1)) as ∧ ReadsAll s.heap (es.map (·.val)) (ps.map (·.2)) bs ∧ (∀ b ∈ as, ∃ o, H b = some o) ∧ ∀ b ∈ bs, ∃ o, H b = some o
  | [], _, _, _, h, r, p => by
    cases h
    cases r
    cases p
    exact ⟨[], [], ReadsAll.nil, ReadsAll.nil, by simp, by simp⟩
  | (kd, d) :: ps, _, _, _, h, r, p => by
    cases h with
    | cons h1 h2 =>
      rename_i k v kvs
      unfold KV at r
      cases r with
      | cons r1 r2 =>
        cases p with
        | cons p1 p2 p3 =>
          rename_i q vs e es
          obtain ⟨bs1, q1, k1⟩ := Dq.reads I d _ q.2 h1 r1.2
          obtain ⟨as, bs, q3, q4, k3, k4⟩ := DqKv.reads I ps _ vs es h2 r2 p3
          have ek : ∃ as0, Reads s.heap e.key (keyD k) as0 ∧ ∀ b ∈ as0, ∃ o, H b = some o := by
            have p1 : keyIs q.1 e.key = true := p1
            rw [← r1.1] at p1
            rcases keyIs_shape p1 with ⟨i, t, z1, z2⟩ | ⟨x, t, z1, z2⟩
            · have z1 : k = .inl i := z1
              rw [z1, z2]; exact ⟨_, Reads.int i t, by simp⟩
            · have z1 : k = .inr x := z1
              rw [z1, z2]; exact ⟨_, Reads.str x t, by simp⟩
          obtain ⟨as0, q0, k0⟩ := ek
          refine ⟨_, _, ReadsAll.cons q0 q3, ReadsAll.cons (show Reads s.heap e.val d bs1 by rw [p2]; exact q1) q4, fun b hb => ?_, fun b hb => ?_⟩
          · exact (List.mem_append.mp hb).elim (k0 b) (k3 b)
          · exact (List.mem_append.mp hb).elim (k1 b) (k4 b)
end
/-- what is read below d: shallower than d; its text is told -/
def Told (X : Cx) (h : Heap) (n : Nat) (u : Value) (t : Str) : Prop := ∃ bs, ReadAtMost h n bs ∧ ReprK X.prog X.w bs h n u t
def ToldAll (X : Cx) (h : Heap) (n : Nat) (us : List Value) (ts : List Str) : Prop := ∃ bs, ReadAtMost h n bs ∧ ReprAllK X.prog X.w bs h n us ts
theorem Told.flat {h : Heap} {n : Nat} {u : Value} {t : Str} (i : ReprIs X.prog X.w u t) : Told X h n u t := ⟨[], (fun _ z => nomatch z), .of_is i _ _ _⟩
theorem told_cons {h : Heap} {m n k : Nat} {u : Value} {us : List Value} {t : Str} {ts : List Str} (a : Told X h m u t) (b : ToldAll X h n us ts) (hm : m ≤ k) (hn : n ≤ k) : ToldAll X h k (u :: us) (t :: ts) := by
  obtain ⟨b1, r1, k1⟩ := a
  obtain ⟨b2, r2, k2⟩ := b
  have l1 := r1.mono hm
  have l2 := r2.mono hn
  exact ⟨b1 ++ b2, l1.append l2, .cons ((k1.more fun _ => List.mem_append_left _).level_le hm) (k2.more_le (fun _ => List.mem_append_right _) hn)⟩
theorem mem_shown {ds : List PyData} {d : PyData} (m : d ∈ ds) : d.shown ∈ PyData.shownAll ds := by
  induction ds with
  | nil => cases m
  | cons e ds ih =>
    simp only [PyData.shownAll, List.mem_cons]
    exact (List.mem_cons.mp m).imp (fun z => by rw [z]) ih
theorem entries_up {h : Heap} {as bs : List Addr} {m n : Nat} (sub : ∀ b ∈ as, b ∈ bs) (l : m ≤ n) {es : List DictEntry} {ts : List Str} (k : ReprEntriesK X.prog X.w as h m es ts) : ReprEntriesK X.prog X.w bs h n es ts := by
  induction k with
  | nil => exact .nil
  | cons a b _ ih => exact .cons ((a.more sub).level_le l) ((b.more sub).level_le l) ih
mutual
theorem Dq.rk (I : Inv X pins σ H s) : ∀ (d : PyData) (v : V) (u : Value), Dq (OnH H) v d → RelV v u → d.showable = true → d.shown.length ≤ sizeLine → Told X s.heap d.depth u d.shown
  | .none, _, _, h, r, _, _ => by cases h; cases r; simp only [PyData.shown]; exact .flat .none
  | .bool b, _, _, h, r, _, _ => by cases h; cases r; simp only [PyData.shown]; exact .flat (.bool b)
  | .int i, _, _, h, r, sh, _ => by cases h; obtain ⟨t, rfl⟩ := r; simp only [PyData.shown]; exact .flat (.int t (by simpa [PyData.showable] using sh))
  | .str x, _, _, h, r, _, sz => by cases h; obtain ⟨t, rfl⟩ := r; simp only [PyData.shown] at sz ⊢; exact .flat (.str x t sz)
  | .list ds, v, u, h, r, sh, sz => by
    obtain ⟨as0, rd, _⟩ := Dq.reads I _ v u h r
    cases h with
    | lst e ha =>
      cases r
      obtain ⟨its, rv, ⟨o, n, ho, hc, _, hd⟩, _⟩ := I.list (SqL.of (K := X.K) e)
      simp only [PyData.shown] at sz
      obtain ⟨bs, rb, kb⟩ := DqAll.rk I ds _ its ha rv (by simpa [PyData.showable] using sh) (fun t ht => Nat.le_trans (listText_mem_le ht) sz)
      have na := not_mem_of_deeper rd (by simp only [PyData.depth]; exact Nat.lt_succ_self _) rb
      refine ⟨_ :: bs, .cons rd (by simp only [PyData.depth]; exact Nat.le_succ _) rb, ?_⟩
      simp only [PyData.depth, PyData.shown]
      cases its with
      | nil =>
        cases rv
        cases ha
        simp only [PyData.shownAll, listText_nil]
        exact .listEmpty ho hc hd
      | cons y ys => exact .list ho hc hd na (by rw [kb.length_eq]; rfl) fun i z ez => kb.item i z (by simpa using ez)
  | .tuple ds, v, u, h, r, sh, sz => by
    obtain ⟨as0, rd, _⟩ := Dq.reads I _ v u h r
    cases h with
    | tup e ha =>
      cases r
      obtain ⟨its, rv, ⟨o, ho, hc, n, hd⟩, _⟩ := I.tuple (SqT.of (K := X.K) e)
      simp only [PyData.shown] at sz
      obtain ⟨bs, rb, kb⟩ := DqAll.rk I ds _ its ha rv (by simpa [PyData.showable] using sh) (fun t ht => Nat.le_trans (tupleText_mem_le ht) sz)
      have na := not_mem_of_deeper rd (by simp only [PyData.depth]; exact Nat.lt_succ_self _) rb
      refine ⟨_ :: bs, .cons rd (by simp only [PyData.depth]; exact Nat.le_succ _) rb, ?_⟩
      simp only [PyData.depth, PyData.shown]
      exact .tuple ho hc hd na kb
  | .dict ps, v, u, h, r, sh, sz => by
    obtain ⟨as0, rd, _⟩ := Dq.reads I _ v u h r
    cases h with
    | dK e ha =>
      cases r
      obtain ⟨_, hsys, vs, rel, o, es, ep, ho, hx, hd, _, pr, _⟩ := dk_of I.hok e
      simp only [PyData.shown] at sz
      obtain ⟨b1, b2, r1, r2, kE⟩ := DqKv.rk I ps _ vs es.toList ha rel pr (by simpa [PyData.showable] using sh) (fun t ht => Nat.le_trans (dictText_mem_le ht) sz)
      have na := not_mem_of_deeper rd (by simp only [PyData.depth]; exact Nat.lt_succ_self _) (r1.append r2)
      refine ⟨_ :: (b1 ++ b2), .cons rd (by simp only [PyData.depth]; exact Nat.le_succ _) (r1.append r2), ?_⟩
      simp only [PyData.depth, PyData.shown]
      exact .dict ho hx.1 hd hsys na kE
theorem DqAll.rk (I : Inv X pins σ H s) : ∀ (ds : List PyData) (vs : List V) (us : List Value), DqAll (OnH H) vs ds → Vals vs us → PyData.showableAll ds = true → (∀ t ∈ PyData.shownAll ds, t.length ≤ sizeLine) → ToldAll X s.heap (PyData.depthAll ds) us (PyData.shownAll ds)
  | [], _, _, h, r, _, _ => by cases h; cases r; simp only [PyData.shownAll]; exact ⟨[], (fun _ z => nomatch z), .nil⟩
  | d :: ds, _, _, h, r, sh, sz => by
    cases h with
    | cons h1 h2 =>
      cases r with
      | cons r1 r2 =>
        simp only [PyData.showableAll, Bool.and_eq_true] at sh
        simp only [PyData.shownAll, PyData.depthAll] at sz ⊢
        exact told_cons (Dq.rk I d _ _ h1 r1 sh.1 (sz _ (by simp))) (DqAll.rk I ds _ _ h2 r2 sh.2 fun t ht => sz t (by simp [ht])) (Nat.le_max_left _ _) (Nat.le_max_right _ _)
theorem DqKv.rk (I : Inv X pins σ H s) : ∀ (ps : List (PyData × PyData)) (kvs : List (Key × V)) (vs : List (Key × Value)) (es : List DictEntry), DqKv (OnH H) kvs ps → KV kvs vs → Pairs (mixKind X.prog X.w) es vs → PyData.showableKv ps = true → (∀ t ∈ PyData.shownKv ps, t.length ≤ sizeLine) →
    ∃ b1 b2, ReadAtMost s.heap (PyData.depthKv ps) b1 ∧ ReadAtMost s.heap (PyData.depthKv ps) b2 ∧ ReprEntriesK X.prog X.w (b1 ++ b2) s.heap (PyData.depthKv ps) es (PyData.shownKv ps)
  | [], _, _, _, h, r, p, _, _ => by
    cases h
    cases r
    cases p
    simp only [PyData.shownKv]
    exact ⟨[], [], (fun _ z => nomatch z), (fun _ z => nomatch z), .nil⟩
  | (kd, d) :: ps, _, _, _, h, r, p, sh, sz => by
    cases h with
    | cons h1 h2 =>
      rename_i k v kvs
      unfold KV at r
      cases r with
      | cons r1 r2 =>
        cases p with
        | cons p1 p2 p3 =>
          rename_i q vs e es
          simp only [PyData.showableKv, Bool.and_eq_true] at sh
          simp only [PyData.shownKv, PyData.depthKv] at sz ⊢
          have z0 := sz _ (List.mem_cons_self ..)
          rw [app_len, app_len] at z0
          obtain ⟨b0, m0, k0⟩ := Dq.rk I d _ q.2 h1 r1.2 sh.1.2 (by omega)
          obtain ⟨b1, b2, m1, m2, kE⟩ := DqKv.rk I ps _ vs es h2 r2 p3 sh.2 fun t ht => sz t (List.mem_cons_of_mem _ ht)
          have hk : Told X s.heap (keyD k).depth e.key (keyD k).shown := by
            have p1 : keyIs q.1 e.key = true := p1
            rw [← r1.1] at p1
            have sk := sh.1.1
            have zk : (keyD k).shown.length ≤ sizeLine := by omega
            rcases keyIs_shape p1 with ⟨i, t, z1, z2⟩ | ⟨x, t, z1, z2⟩
            · have z1 : k = .inl i := z1
              subst z1
              rw [z2]
              exact Dq.rk I _ _ _ (.int i) ⟨t, rfl⟩ sk zk
            · have z1 : k = .inr x := z1
              subst z1
              rw [z2]
              exact Dq.rk I _ _ _ (.str x) ⟨t, rfl⟩ sk zk
          obtain ⟨c0, n0, l0⟩ := hk
          have x1 : (keyD k).depth ≤ max (max (keyD k).depth d.depth) (PyData.depthKv ps) := Nat.le_trans (Nat.le_max_left _ _) (Nat.le_max_left _ _)
          have x2 : d.depth ≤ max (max (keyD k).depth d.depth) (PyData.depthKv ps) := Nat.le_trans (Nat.le_max_right _ _) (Nat.le_max_left _ _)
          have x3 : PyData.depthKv ps ≤ max (max (keyD k).depth d.depth) (PyData.depthKv ps) := Nat.le_max_right _ _
          refine ⟨c0 ++ b0, b1 ++ b2, (n0.mono x1).append (m0.mono x2), (m1.mono x3).append (m2.mono x3), .cons ?_ ?_ ?_⟩
          · exact (l0.more fun b hb => List.mem_append_left _ (List.mem_append_left _ hb)).level_le x1
          · rw [p2]
            exact (k0.more fun b hb => List.mem_append_left _ (List.mem_append_right _ hb)).level_le x2
          · exact entries_up (fun b hb => List.mem_append_right _ hb) x3 kE
end
end
section
variable {X : Cx} {H0 : Hp} {M : Addr → Prop} {L : LL} {Q : V → LL → Prop} {k : Nat}
/-- a value whose repr is not too long -/
structure Sm (B n : Nat) (d : PyData) : Prop where
  sh : d.showable = true
  dp : d.depth ≤ n
  sz : d.shown.length ≤ B
theorem call_reprQ (hr : Room k X.A) (gd : X.A.guards = some []) : CallR X (.builtin "repr") (fun xs H Q => ∃ v d, xs = [v] ∧ Dq (OnH H) v d ∧ Sm sizeLine 60 d ∧ Q (.str d.shown) H) := by
  intro pins s σ H xs us Q I r h
  obtain ⟨v, d, rfl, dq, ⟨sh, dh, sz⟩, q⟩ := h
  obtain ⟨u, rfl, ru⟩ : ∃ u, us = [u] ∧ RelV v u := by
    cases r with
    | cons a b => cases b; exact ⟨_, rfl, a⟩
  cases dq with
  | non => cases ru; exact PySem.P.repr_of_none ⟨.str _, H, I.tok _, ⟨_, rfl⟩, q⟩
  | bl b => cases ru; exact PySem.P.repr_of_bool ⟨.str _, H, I.tok _, ⟨_, by cases b <;> rfl⟩, q⟩
  | int i =>
    obtain ⟨t, rfl⟩ := ru
    exact PySem.P.repr_of_int (by simpa [PyData.showable] using sh) ⟨.str _, H, I.tok _, ⟨_, rfl⟩, by simpa [PyData.shown] using q⟩
  | str x =>
    obtain ⟨t, rfl⟩ := ru
    exact PySem.P.repr_of_str ⟨.str _, H, I.tok _, ⟨_, rfl⟩, by simpa [PyData.shown] using q⟩ (by simpa [PyData.shown] using sz)
  | lst e h =>
    rename_i a xs ds
    obtain ⟨as0, rd, _⟩ := Dq.reads I _ _ u (.lst e h) ru
    obtain rfl : u = Value.ref a := ru
    obtain ⟨its, rv, ⟨o, n, ho, hc, _, hd⟩, _⟩ := I.list (SqL.of (K := X.K) e)
    simp only [PyData.shown] at sz q
    obtain ⟨bs, rb, kb⟩ := DqAll.rk I ds _ its h rv (by simpa [PyData.showable] using sh) (fun t ht => Nat.le_trans (listText_mem_le ht) sz)
    have na := not_mem_of_deeper rd (by simp only [PyData.depth]; exact Nat.lt_succ_self _) rb
    simp only [PyData.depth] at dh
    have hu := hr.un
    refine call_repr_slot (by omega) ⟨o, ho, hc⟩ F.slot_list_repr.toG ?_
    cases its with
    | nil =>
      cases rv
      cases h
      simp only [PyData.shownAll] at q
      refine call_list_repr_empty ⟨o, ho, hc⟩ ho hd ⟨_, _, rfl, .str (listText []), H, I.tok _, ⟨_, by rw [listText_nil]⟩, q⟩
    | cons y ys => exact call_list_reprK ho hc hd na (by rw [kb.length_eq]; rfl) (fun i z ez => kb.item i z (by simpa using ez)) gd (fun b _ => Clear.nil b) (by show X.A.units + 1 + _ < _; omega) (fun _ _ z => z) (fun h' u tk kp => ⟨_, _, rfl, .str _, H, I.kept kp, ⟨u, rfl⟩, q⟩) sz
  | tup e h =>
    rename_i a xs ds
    obtain ⟨as0, rd, _⟩ := Dq.reads I _ _ u (.tup e h) ru
    obtain rfl : u = Value.ref a := ru
    obtain ⟨its, rv, ⟨o, ho, hc, n, hd⟩, _⟩ := I.tuple (SqT.of (K := X.K) e)
    simp only [PyData.shown] at sz q
    obtain ⟨bs, rb, kb⟩ := DqAll.rk I ds _ its h rv (by simpa [PyData.showable] using sh) (fun t ht => Nat.le_trans (tupleText_mem_le ht) sz)
    have na := not_mem_of_deeper rd (by simp only [PyData.depth]; exact Nat.lt_succ_self _) rb
    simp only [PyData.depth] at dh
    have hu := hr.un
    refine call_repr_slot (by omega) ⟨o, ho, hc⟩ F.slot_tuple_repr ?_
    exact call_tuple_reprK ho hc hd na kb gd (fun b _ => Clear.nil b) (by show X.A.units + 1 + _ < _; omega) (fun _ _ z => z) (fun h' u tk kp => ⟨_, _, rfl, .str _, H, I.kept kp, ⟨u, rfl⟩, q⟩) sz
  | dK e h =>
    rename_i a kvs ps
    obtain ⟨as0, rd, _⟩ := Dq.reads I _ _ u (.dK e h) ru
    obtain rfl : u = Value.ref a := ru
    obtain ⟨_, hsys, vs, rel, o, es, ep, ho, hx, hd, _, pr, _⟩ := dk_of I.hok e
    simp only [PyData.shown] at sz q
    obtain ⟨b1, b2, r1, r2, kE⟩ := DqKv.rk I ps _ vs es.toList h rel pr (by simpa [PyData.showable] using sh) (fun t ht => Nat.le_trans (dictText_mem_le ht) sz)
    have na := not_mem_of_deeper rd (by simp only [PyData.depth]; exact Nat.lt_succ_self _) (r1.append r2)
    simp only [PyData.depth] at dh
    have hu := hr.un
    refine call_repr_slot (by omega) ⟨o, ho, hx.1⟩ F.slot_dict_repr ?_
    exact call_dict_reprK ho hx.1 hd hsys na kE gd (fun b _ => Clear.nil b) (by show X.A.units + 1 + _ < _; omega) (fun _ _ z => z) (fun h' u tk kp => ⟨_, _, rfl, .str _, H, I.kept kp, ⟨u, rfl⟩, q⟩) sz
theorem rc_reprQ {v : V} {d : PyData} (hr : Room k X.A) (gd : X.A.guards = some []) (dq : ∀ H, Hs H0 M L H → Dq (OnH H) v d) (sm : Sm sizeLine 60 d) (h : Q (.str d.shown) L) :
    rc X H0 M (.builtin "repr") [v] L Q := rc_of (call_reprQ hr gd) fun H z => ⟨v, d, rfl, dq H z, sm, L, z, h⟩
theorem Dq.onH {v : V} {d : PyData} (h : Dq (At L) v d) {H : Hp} (z : Hs H0 M L H) : Dq (OnH H) v d := h.imp (fun _ _ e => z.get e) d v
end
theorem Fl.sm {v : V} {d : PyData} (h : Fl v d) : Sm 1921 0 d := by
  obtain ⟨a, _, _, c⟩ := h.facts
  refine ⟨a, ?_, c⟩
  cases h <;> simp [PyData.depth]
theorem Fl.dq {G : Kn} {v : V} {d : PyData} (h : Fl v d) : Dq G v d := by
  cases h with
  | non => exact .non
  | bl => exact .bl _
  | int => exact .int _
  | str => exact .str _
theorem Fls.dqs {G : Kn} {vs : List V} {ds : List PyData} (h : Fls vs ds) : DqAll G vs ds := by
  induction h with
  | nil => exact .nil
  | cons h _ ih => exact .cons h.dq ih
theorem showAll {ds : List PyData} (h : ∀ d ∈ ds, d.showable = true) : PyData.showableAll ds = true := by
  induction ds with
  | nil => simp [PyData.showableAll]
  | cons d ds ih => simp [PyData.showableAll, h d (by simp), ih fun x hx => h x (List.mem_cons_of_mem _ hx)]
theorem depthAll_le {n : Nat} {ds : List PyData} (h : ∀ d ∈ ds, d.depth ≤ n) : PyData.depthAll ds ≤ n := by
  induction ds with
  | nil => simp [PyData.depthAll]
  | cons d ds ih =>
    simp only [PyData.depthAll]
    exact Nat.max_le.mpr ⟨h d (by simp), ih fun x hx => h x (List.mem_cons_of_mem _ hx)⟩
theorem Sm.up {B B' n n' : Nat} {d : PyData} (h : Sm B n d) (b : B ≤ B') (m : n ≤ n') : Sm B' n' d := ⟨h.sh, Nat.le_trans h.dp m, Nat.le_trans h.sz b⟩
theorem Sm.list {B n k : Nat} {ds : List PyData} (h : ∀ d ∈ ds, Sm B n d) (hk : ds.length ≤ k) : Sm (k * (B + 2) + 3) (n + 1) (.list ds) :=
  ⟨by simp only [PyData.showable]; exact showAll fun d hd => (h d hd).sh, by simp only [PyData.depth]; exact Nat.succ_le_succ (depthAll_le fun d hd => (h d hd).dp), Nat.le_succ_of_le (list_le (fun d hd => (h d hd).sz) hk)⟩
theorem Sm.tuple {B n k : Nat} {ds : List PyData} (h : ∀ d ∈ ds, Sm B n d) (hk : ds.length ≤ k) : Sm (k * (B + 2) + 3) (n + 1) (.tuple ds) :=
  ⟨by simp only [PyData.showable]; exact showAll fun d hd => (h d hd).sh, by simp only [PyData.depth]; exact Nat.succ_le_succ (depthAll_le fun d hd => (h d hd).dp), tuple_le (fun d hd => (h d hd).sz) hk⟩
theorem shownKv_mem {B : Nat} : ∀ {ps : List (PyData × PyData)}, (∀ p ∈ ps, p.1.shown.length ≤ B ∧ p.2.shown.length ≤ B) → (∀ t ∈ PyData.shownKv ps, t.length ≤ 2 * B + 2) ∧ (PyData.shownKv ps).length = ps.length
  | [], _ => ⟨by simp [PyData.shownKv], rfl⟩
  | (a, b) :: ps, h => by
    obtain ⟨h1, h2⟩ := shownKv_mem (ps := ps) fun p hp => h p (List.mem_cons_of_mem _ hp)
    obtain ⟨a1, b1⟩ := h (a, b) (by simp)
    have a1 : a.shown.length ≤ B := a1
    have b1 : b.shown.length ≤ B := b1
    refine ⟨fun t ht => ?_, by simp only [PyData.shownKv, List.length_cons, h2]⟩
    simp only [PyData.shownKv] at ht
    rcases List.mem_cons.mp ht with e | ht
    · rw [e, app_len, app_len]
      have : ((": " : String) : Str).length = 2 := by decide +kernel
      omega
    · exact h1 t ht
theorem Sm.dict {B n k : Nat} {ps : List (PyData × PyData)} (h : ∀ p ∈ ps, Sm B n p.1 ∧ Sm B n p.2) (hk : ps.length ≤ k) : Sm (k * (2 * B + 4) + 3) (n + 1) (.dict ps) := by
  refine ⟨?_, ?_, ?_⟩
  · simp only [PyData.showable]
    clear hk
    induction ps with
    | nil => simp [PyData.showableKv]
    | cons p ps ih =>
      obtain ⟨h1, h2⟩ := h p (by simp)
      simp [PyData.showableKv, h1.sh, h2.sh, ih fun x hx => h x (List.mem_cons_of_mem _ hx)]
  · simp only [PyData.depth]
    refine Nat.succ_le_succ ?_
    clear hk
    induction ps with
    | nil => simp [PyData.depthKv]
    | cons p ps ih =>
      obtain ⟨h1, h2⟩ := h p (by simp)
      simp only [PyData.depthKv]
      exact Nat.max_le.mpr ⟨Nat.max_le.mpr ⟨h1.dp, h2.dp⟩, ih fun x hx => h x (List.mem_cons_of_mem _ hx)⟩
  · show (dictText (PyData.shownKv ps)).length ≤ _
    obtain ⟨h1, h2⟩ := shownKv_mem (B := B) (ps := ps) fun p hp => ⟨(h p hp).1.sz, (h p hp).2.sz⟩
    have t := join_le (PyData.shownKv ps) h1
    unfold dictText
    rw [app_len, app_len]
    have e1 : (("{" : String) : Str).length = 1 := by decide +kernel
    have e2 : (("}" : String) : Str).length = 1 := by decide +kernel
    have m := Nat.mul_le_mul_right (2 * B + 2 + 2) hk
    rw [h2] at t
    rw [show 2 * B + 4 = 2 * B + 2 + 2 by omega]
    omega
end Xi

/-! ## Zc -/
/-! Comprehensions over zip(xs, ys) and over the items of a dict, with tests. -/
namespace Xi
open PySem PySem.Spec PyProof.Rows L2
section
variable {α β : Type} {X : Cx} {elt e1 e2 : Expr} {elts : List Expr} {kk : Nat} {tpos pp pe pos : Pos} {ifs : List Expr} {scope : Scope} {H0 : Hp} {M : Addr → Prop} {L : LL} {σ : L2.St} {Q : V → LL → Prop} {P : Program} {w : World} {K : PySem.W.Frag} {mg : Str → Option Value} {base : Heap} {k : Nat} {N Nv Nw : List Str} {sc : Scope}
abbrev zipF (p : α → β → Bool) (f : α → β → V) (zs : List (α × β)) : List V := (zs.filter fun z => p z.1 z.2).map fun z => f z.1 z.2
theorem zipF_snoc {p : α → β → Bool} {f : α → β → V} {zs : List (α × β)} {i : Nat} {x : α} {y : β} (h : zs[i]? = some (x, y)) : zipF p f (zs.take (i + 1)) = zipF p f (zs.take i) ++ if p x y = true then [f x y] else [] := by
  unfold zipF
  rw [take_snoc h, List.filter_append, List.map_append]
  by_cases e : p x y = true
  · simp [e]
  · simp [e]
theorem Body.klZ (gx : α → V) (gy : β → V) (p : α → β → Bool) (f : α → β → V) (bd : Body X P w K mg base k N Nv sc) (ns : Ns X N Nw) (own : List (Str × Nat)) (Nb No : List Str) (vis : ∀ x ∈ Nb, (relS scope sc).names.lookup x = some .local ∨ (relS scope sc).names.lookup x = some .cell ∨ (relS scope sc).names.lookup x = some .free) (pl : ∀ x ∈ Nb, (x == ("__debug__" : Str)) = false ∧ (x == ("__classdict__" : Str)) = false) (lc : ∀ x ∈ No, (relS scope sc).names.lookup x = some .local)
    (hg : Gl X "zip") (hm : X.mg "zip" = none) (hs1 : starEach [e1, e2] X.env = [(false, eval e1 X.env), (false, eval e2 X.env)]) (hs2 : starEach [e2] X.env = [(false, eval e2 X.env)]) (hpl : (backTo pe (starEach [e2] X.env)).any (·.1) = false)
    (h : ke X H0 M e1 σ L fun v L1 => ke X H0 M e2 σ L1 fun v2 L2 => ∃ (a b : Addr) (xs : List α) (ys : List β), v = .ref a ∧ v2 = .ref b ∧ At L2 a (.lst (xs.map gx)) ∧ At L2 b (.lst (ys.map gy)) ∧ xs.length ≤ 1000 ∧
      (∀ (i : Nat) (x : α) (y : β), xs[i]? = some x → ys[i]? = some y → ∀ D acc T, H0 D = none → H0 T = none → ∀ B, Body B P w K mg base k N Nb (relS scope sc) → Ns B N No → kg B H0 M (.Tuple elts kk tpos) (.ref T) (wipe σ (own.map (·.2))) ((T, .tup [gx x, gy y]) :: (D, acc) :: L2) fun σ2 L3 => wipe σ2 (own.map (·.2)) = wipe σ (own.map (·.2)) ∧
        ∀ B, Body B P w K mg base k N Nb (relS scope sc) → kf B H0 M ifs σ2 L3 fun b L4 => b = p x y ∧ Sub ((D, acc) :: L2) L4 ∧ (p x y = true → ∀ B, Body B P w K mg base k N Nb (relS scope sc) → ke B H0 M elt σ2 L4 fun z L5 => z = f x y ∧ Sub ((D, acc) :: L2) L5)) ∧
      ∀ D, H0 D = none → Q (.ref D) ((D, .lst (zipF p f (xs.zip ys))) :: L2)) :
    kLc X H0 M elt (.Tuple elts kk tpos) (.Call (.Name "zip" pp) [e1, e2] [] pe) ifs scope own σ L Q := by
  refine Body.kl bd ns own Nb No vis pl lc (ki_zip hg hm hs1 hs2 hpl fun H z => we_mono (h H z) fun v H1 ⟨L1, z1, k1⟩ => ⟨L1, z1, fun H2 z2 => we_mono (k1 H2 z2) fun w H3 ⟨L2, z3, a, b, xs, ys, ev, ew, ia, ib, hl, st, en⟩ => ⟨L2, z3, a, b, _, _, ev, ew, ia, ib, fun J wk D nD => ?_⟩⟩)
  refine ⟨_, _, _, fun i L => L = (D, .lst (zipF p f ((xs.zip ys).take i))) :: L2, wk, rfl, fun i L hi e => by rw [e]; exact ⟨.there ia, .there ib⟩, fun i q L L' hi e hx B bB nB => ?_, fun L e => ?_⟩
  · obtain ⟨T, u, y', ex, nT, hu, hy, e2⟩ := hx
    subst ex e2 e
    rw [List.getElem?_map] at hu hy
    obtain ⟨x, hx, rfl⟩ := Option.map_eq_some_iff.mp hu
    obtain ⟨y, hy2, rfl⟩ := Option.map_eq_some_iff.mp hy
    have hz : (xs.zip ys)[i]? = some (x, y) := by rw [List.getElem?_zip_eq_some]; exact ⟨hx, hy2⟩
    intro H z pins s u I r
    refine wg_mono (fun pins s u I r => st i x y hx hy2 D (.lst (zipF p f ((xs.zip ys).take i))) T nD nT B bB nB H z pins s u I r) (fun σ2 H2 ⟨L3, z3, e3, q3⟩ => ?_) pins s u I r
    refine ⟨L3, z3, e3, fun B hB => kf_mono (q3 B hB) fun b L4 ⟨eb, sb, q4⟩ => ?_⟩
    subst eb
    cases hp : p x y with
    | true =>
      rw [if_pos rfl]
      intro B hB H4 z4
      refine we_mono (q4 hp B hB H4 z4) fun v H5 ⟨L5, z5, e5, s5⟩ => ?_
      refine ⟨_, z5.sub s5, _, _, .here, ?_, _, .refl _, ?_⟩
      · unfold zipF
        rw [List.length_map]
        refine Nat.lt_of_le_of_lt (Nat.le_trans (List.length_filter_le _ _) (Nat.le_trans (List.length_take_le' _ _) ?_)) (show (1000 : Nat) < sizeLine by decide)
        rw [List.length_zip]
        exact Nat.le_trans (Nat.min_le_left _ _) hl
      · show (D, HO.lst (_ ++ [v])) :: L2 = (D, .lst (zipF p f ((xs.zip ys).take (i + 1)))) :: L2
        rw [e5, zipF_snoc hz, hp, if_pos rfl]
    | false =>
      rw [if_neg (by decide)]
      refine ⟨_, sb, ?_⟩
      show (D, HO.lst _) :: L2 = (D, .lst (zipF p f ((xs.zip ys).take (i + 1)))) :: L2
      rw [zipF_snoc hz, hp, if_neg (by decide), List.append_nil]
  · subst e
    rw [List.length_map, List.length_map, show min xs.length ys.length = (xs.zip ys).length by rw [List.length_zip], List.take_length]
    exact en D nD
theorem Body.lcZ (gx : α → V) (gy : β → V) (p : α → β → Bool) (f : α → β → V) (bd : Body X P w K mg base k N Nv sc) (ns : Ns X N Nw) (own : List (Str × Nat)) (Nb No : List Str) (ok : BlkOk N sc scope own) (vis : ∀ x ∈ Nb, (relS scope sc).names.lookup x = some .local ∨ (relS scope sc).names.lookup x = some .cell ∨ (relS scope sc).names.lookup x = some .free) (pl : ∀ x ∈ Nb, (x == ("__debug__" : Str)) = false ∧ (x == ("__classdict__" : Str)) = false) (lc : ∀ x ∈ No, (relS scope sc).names.lookup x = some .local)
    (hs : ∀ x, foldedSetIterable (.Call (.Name "zip" pp) [e1, e2] [] pe) X.env x = pure x) (hg : Gl X "zip") (hm : X.mg "zip" = none) (hs1 : starEach [e1, e2] X.env = [(false, eval e1 X.env), (false, eval e2 X.env)]) (hs2 : starEach [e2] X.env = [(false, eval e2 X.env)]) (hpl : (backTo pe (starEach [e2] X.env)).any (·.1) = false)
    (h : ke X H0 M e1 σ L fun v L1 => ke X H0 M e2 σ L1 fun v2 L2 => ∃ (a b : Addr) (xs : List α) (ys : List β), v = .ref a ∧ v2 = .ref b ∧ At L2 a (.lst (xs.map gx)) ∧ At L2 b (.lst (ys.map gy)) ∧ xs.length ≤ 1000 ∧
      (∀ (i : Nat) (x : α) (y : β), xs[i]? = some x → ys[i]? = some y → ∀ D acc T, H0 D = none → H0 T = none → ∀ B, Body B P w K mg base k N Nb (relS scope sc) → Ns B N No → kg B H0 M (.Tuple elts kk tpos) (.ref T) (wipe σ (own.map (·.2))) ((T, .tup [gx x, gy y]) :: (D, acc) :: L2) fun σ2 L3 => wipe σ2 (own.map (·.2)) = wipe σ (own.map (·.2)) ∧
        ∀ B, Body B P w K mg base k N Nb (relS scope sc) → kf B H0 M ifs σ2 L3 fun b L4 => b = p x y ∧ Sub ((D, acc) :: L2) L4 ∧ (p x y = true → ∀ B, Body B P w K mg base k N Nb (relS scope sc) → ke B H0 M elt σ2 L4 fun z L5 => z = f x y ∧ Sub ((D, acc) :: L2) L5)) ∧
      ∀ D, H0 D = none → Q (.ref D) ((D, .lst (zipF p f (xs.zip ys))) :: L2)) :
    ke X H0 M (.ListComp elt [⟨.Tuple elts kk tpos, .Call (.Name "zip" pp) [e1, e2] [] pe, ifs, 0⟩] scope pos) σ L Q :=
  ke_kl bd.calm (by rw [ns.eq]; exact ns.nd) (by rw [ns.eq, bd.scope]; exact ok) hs (Body.klZ gx gy p f bd ns own Nb No vis pl lc hg hm hs1 hs2 hpl h)
end
section
variable {X : Cx} {elt o : Expr} {elts : List Expr} {kk : Nat} {tpos apos pe pos : Pos} {scope : Scope} {H0 : Hp} {M : Addr → Prop} {L : LL} {σ : L2.St} {Q : V → LL → Prop} {P : Program} {w : World} {K : PySem.W.Frag} {mg : Str → Option Value} {base : Heap} {k : Nat} {N Nv Nw : List Str} {sc : Scope}
/-- [f(k, v) for k, v in d.items()], d locked -/
theorem Body.lcItems (f : Key × V → V) (bd : Body X P w K mg base k N Nv sc) (ns : Ns X N Nw) (own : List (Str × Nat)) (Nb No : List Str) (ok : BlkOk N sc scope own) (vis : ∀ x ∈ Nb, (relS scope sc).names.lookup x = some .local ∨ (relS scope sc).names.lookup x = some .cell ∨ (relS scope sc).names.lookup x = some .free) (pl : ∀ x ∈ Nb, (x == ("__debug__" : Str)) = false ∧ (x == ("__classdict__" : Str)) = false) (lc : ∀ x ∈ No, (relS scope sc).names.lookup x = some .local)
    (hs : ∀ x, foldedSetIterable (.Call (.Attribute o "items" apos) [] [] pe) X.env x = pure x) (hbase : attributeBase o "items" X.env (eval o X.env) = eval o X.env) (hline : (apos.endLine == pe.line) = true)
    (h : ke X H0 M o σ L fun v L1 => ∃ (d : Addr) (od : Obj) (kvs : List (Key × V)), v = .ref d ∧ At L1 d (.frz od (.dK kvs)) ∧ kvs.length ≤ 1000 ∧
      (∀ (kv : Key × V), kv ∈ kvs → ∀ D acc T, H0 D = none → H0 T = none → ∀ B, Body B P w K mg base k N Nb (relS scope sc) → Ns B N No → kg B H0 M (.Tuple elts kk tpos) (.ref T) (wipe σ (own.map (·.2))) ((T, .tup [kV kv.1, kv.2]) :: (D, acc) :: L1) fun σ2 L3 => wipe σ2 (own.map (·.2)) = wipe σ (own.map (·.2)) ∧
        ∀ B, Body B P w K mg base k N Nb (relS scope sc) → ke B H0 M elt σ2 L3 fun z L5 => z = f kv ∧ Sub ((D, acc) :: L1) L5) ∧
      ∀ D, H0 D = none → Q (.ref D) ((D, .lst (kvs.map f)) :: L1)) :
    ke X H0 M (.ListComp elt [⟨.Tuple elts kk tpos, .Call (.Attribute o "items" apos) [] [] pe, [], 0⟩] scope pos) σ L Q := by
  refine Body.lc bd ns own Nb No ok vis pl lc hs (ki_items hbase hline fun H z => we_mono (h H z) fun v H1 ⟨L1, z1, d, od, kvs, ev, ia, hl, st, en⟩ => ⟨L1, z1, d, od, kvs, ev, ia, fun J wk D nD => ?_⟩)
  refine ⟨_, _, _, fun i L => L = (D, .lst ((kvs.take i).map f)) :: L1, wk, rfl, fun i L hi e => by rw [e]; exact .there ia, fun i q L L' hi e hx B bB nB => ?_, fun L e => ?_⟩
  · obtain ⟨T, kv, ex, nT, hkv, e2⟩ := hx
    subst ex e2 e
    intro H z pins s u I r
    refine wg_mono (fun pins s u I r => st kv (List.mem_of_getElem? hkv) D (.lst ((kvs.take i).map f)) T nD nT B bB nB H z pins s u I r) (fun σ2 H2 ⟨L3, z3, e3, q3⟩ => ?_) pins s u I r
    refine ⟨L3, z3, e3, fun B hB => kf_nil ?_⟩
    rw [if_pos rfl]
    intro B' hB' H4 z4
    refine we_mono (q3 B' hB' H4 z4) fun v H5 ⟨L5, z5, e5, s5⟩ => ⟨_, z5.sub s5, _, _, .here, ?_, _, .refl _, ?_⟩
    · rw [List.length_map]
      exact Nat.lt_of_le_of_lt (Nat.le_trans (List.length_take_le' _ _) hl) (show (1000 : Nat) < sizeLine by decide)
    · show (D, HO.lst (_ ++ [v])) :: L1 = (D, .lst ((kvs.take (i + 1)).map f)) :: L1
      rw [e5, take_snoc hkv, List.map_append]
      rfl
  · subst e
    rw [List.take_length]
    exact en D nD
end
section
variable {α : Type} {X : Cx} {elt tg iter : Expr} {pos : Pos} {ifs : List Expr} {scope : Scope} {H0 : Hp} {M : Addr → Prop} {L : LL} {σ : L2.St} {Q : V → LL → Prop} {P : Program} {w : World} {K : PySem.W.Frag} {mg : Str → Option Value} {base : Heap} {k : Nat} {N Nv Nw : List Str} {sc : Scope}
/-- [f(x) for x in xs if p(x)], values -/
theorem Body.lcP (g : α → V) (p : α → Bool) (f : α → V) (bd : Body X P w K mg base k N Nv sc) (ns : Ns X N Nw) (own : List (Str × Nat)) (Nb No : List Str) (ok : BlkOk N sc scope own) (vis : ∀ x ∈ Nb, (relS scope sc).names.lookup x = some .local ∨ (relS scope sc).names.lookup x = some .cell ∨ (relS scope sc).names.lookup x = some .free) (pl : ∀ x ∈ Nb, (x == ("__debug__" : Str)) = false ∧ (x == ("__classdict__" : Str)) = false) (lc : ∀ x ∈ No, (relS scope sc).names.lookup x = some .local)
    (hs : ∀ x, foldedSetIterable iter X.env x = pure x)
    (h : ke X H0 M iter σ L fun v L1 => ∃ (a : Addr) (is : List α), v = .ref a ∧ At L1 a (.lst (is.map g)) ∧ is.length ≤ 1000 ∧
      (∀ x ∈ is, ∀ D acc, H0 D = none → ∀ B, Body B P w K mg base k N Nb (relS scope sc) → Ns B N No → kg B H0 M tg (g x) (wipe σ (own.map (·.2))) ((D, acc) :: L1) fun σ2 L3 => wipe σ2 (own.map (·.2)) = wipe σ (own.map (·.2)) ∧
        ∀ B, Body B P w K mg base k N Nb (relS scope sc) → kf B H0 M ifs σ2 L3 fun b L4 => b = p x ∧ Sub ((D, acc) :: L1) L4 ∧ (p x = true → ∀ B, Body B P w K mg base k N Nb (relS scope sc) → ke B H0 M elt σ2 L4 fun z L5 => z = f x ∧ Sub ((D, acc) :: L1) L5)) ∧
      ∀ D, H0 D = none → Q (.ref D) ((D, .lst ((is.filter p).map f)) :: L1)) :
    ke X H0 M (.ListComp elt [⟨tg, iter, ifs, 0⟩] scope pos) σ L Q := by
  refine Body.lc bd ns own Nb No ok vis pl lc hs (ki_list fun H z => we_mono (h H z) fun v H1 ⟨L1, z1, a, is, ev, ia, hl, st, en⟩ => ⟨L1, z1, a, _, ev, ia, fun J wk D nD => ?_⟩)
  refine ⟨_, _, _, fun i L => L = (D, .lst (((is.take i).filter p).map f)) :: L1, wk, rfl, fun i L hi e => by rw [e]; exact .there ia, fun i q L L' hi e hx B bB nB => ?_, fun L e => ?_⟩
  · obtain ⟨e2, hx⟩ := hx
    subst e2 e
    rw [List.getElem?_map] at hx
    obtain ⟨y, hy, rfl⟩ := Option.map_eq_some_iff.mp hx
    intro H z pins s u I r
    refine wg_mono (fun pins s u I r => st y (List.mem_of_getElem? hy) D (.lst (((is.take i).filter p).map f)) nD B bB nB H z pins s u I r) (fun σ2 H2 ⟨L3, z3, e3, q3⟩ => ?_) pins s u I r
    refine ⟨L3, z3, e3, fun B hB => kf_mono (q3 B hB) fun b L4 ⟨eb, sb, q4⟩ => ?_⟩
    subst eb
    have snoc : (((is.take (i + 1)).filter p).map f) = ((is.take i).filter p).map f ++ if p y = true then [f y] else [] := by
      rw [take_snoc hy, List.filter_append, List.map_append]
      by_cases e : p y = true
      · simp [e]
      · simp [e]
    cases hp : p y with
    | true =>
      rw [if_pos rfl]
      intro B hB H4 z4
      refine we_mono (q4 hp B hB H4 z4) fun v H5 ⟨L5, z5, e5, s5⟩ => ?_
      refine ⟨_, z5.sub s5, _, _, .here, ?_, _, .refl _, ?_⟩
      · rw [List.length_map]
        exact Nat.lt_of_le_of_lt (Nat.le_trans (List.length_filter_le _ _) (Nat.le_trans (List.length_take_le' _ _) hl)) (show (1000 : Nat) < sizeLine by decide)
      · show (D, HO.lst (_ ++ [v])) :: L1 = (D, .lst (((is.take (i + 1)).filter p).map f)) :: L1
        rw [e5, snoc, hp, if_pos rfl]
    | false =>
      rw [if_neg (by decide)]
      refine ⟨_, sb, ?_⟩
      show (D, HO.lst _) :: L1 = (D, .lst (((is.take (i + 1)).filter p).map f)) :: L1
      rw [snoc, hp, if_neg (by decide), List.append_nil]
  · subst e
    rw [List.length_map, List.take_length]
    exact en D nD
end
/-- {"x": e} -/
theorem ke_dict1 {X : Cx} {H0 : Hp} {M : Addr → Prop} {L : LL} {σ : L2.St} {Q : V → LL → Prop} {x : Str} {e : Expr} {j} {pos pos1 : Pos} (h : ∀ p, H0 p = none → ke X H0 M e σ ((p, .dK []) :: L) fun v L1 => ∃ g, Spot L1 p (.dK []) g ∧ Q (.ref p) (g (.dK [(.inr x, v)]))) :
    ke X H0 M (.Dict [some (.Constant (.str x) j pos1)] [e] pos) σ L Q := fun H z =>
  we_of (pe_disp (pps_cons pe_str pe_we pps_nil) rfl rfl (by simp) (Nat.le_of_ble_eq_true rfl)) fun p hp => we_mono (h p (z.fresh hp) _ (z.new hp)) fun v H2 ⟨L1, z1, g, sp, q⟩ => ⟨z1.at_ _ sp.mem, [(.inr x, v)], rfl, by simp, _, z1.put sp (.inl (z.fresh hp)), q⟩
end Xi

namespace Toy
open PySem L2 Xi

theorem sz1000 {n : Nat} (h : Nat.ble n 1000 = true) : n ≤ sizeLine := Nat.le_trans (Nat.le_of_ble_eq_true h) (by decide)
theorem szl1000 {n : Nat} (h : Nat.ble n 1000 = true) : n < sizeLine := Nat.lt_of_le_of_lt (Nat.le_of_ble_eq_true h) (by decide)
theorem bo_isinstance : bootBuiltins ("isinstance" : Str) = some (.builtin "isinstance") := by decide +kernel
theorem bo_len : bootBuiltins ("len" : Str) = some (.builtin "len") := by decide +kernel
theorem bo_max : bootBuiltins ("max" : Str) = some (.builtin "max") := by decide +kernel
theorem bo_min : bootBuiltins ("min" : Str) = some (.builtin "min") := by decide +kernel
theorem bo_abs : bootBuiltins ("abs" : Str) = some (.builtin "abs") := by decide +kernel
theorem bo_repr : bootBuiltins ("repr" : Str) = some (.builtin "repr") := by decide +kernel
theorem bo_sum : bootBuiltins ("sum" : Str) = some (.builtin "sum") := by decide +kernel
theorem bo_all : bootBuiltins ("all" : Str) = some (.builtin "all") := by decide +kernel
theorem bo_any : bootBuiltins ("any" : Str) = some (.builtin "any") := by decide +kernel
theorem bo_sorted : bootBuiltins ("sorted" : Str) = some (.builtin "sorted") := by decide +kernel
theorem bo_int : bootBuiltins ("int" : Str) = some (.type "int") := by decide +kernel
theorem bo_bool : bootBuiltins ("bool" : Str) = some (.type "bool") := by decide +kernel
theorem bo_str : bootBuiltins ("str" : Str) = some (.type "str") := by decide +kernel
theorem bo_list : bootBuiltins ("list" : Str) = some (.type "list") := by decide +kernel
theorem bo_VE : bootBuiltins ("ValueError" : Str) = some (.type "ValueError") := by decide +kernel
theorem bo_tuple : bootBuiltins ("tuple" : Str) = some (.type "tuple") := by decide +kernel
section
variable {X : Cx} {H0 : Hp} {M : Addr → Prop} {e : Expr} {es : List Expr} {σ : L2.St} {L : LL} {Q : V → LL → Prop} {pos p : Pos}
theorem cb_isinstance (hg : Gl X "isinstance") (hm : X.mg "isinstance" = none) (he : starEach (e :: es) X.env = (false, eval e X.env) :: starEach es X.env) (hpl : (backTo pos (starEach es X.env)).any (·.1) = false) (h : ka X H0 M (e :: es) σ L fun vs L1 => rc X H0 M (.builtin "isinstance") vs L1 Q) : ke X H0 M (.Call (.Name "isinstance" p) (e :: es) [] pos) σ L Q := ke_callB hg hm bo_isinstance he hpl h
theorem cb_len (hg : Gl X "len") (hm : X.mg "len" = none) (he : starEach (e :: es) X.env = (false, eval e X.env) :: starEach es X.env) (hpl : (backTo pos (starEach es X.env)).any (·.1) = false) (h : ka X H0 M (e :: es) σ L fun vs L1 => rc X H0 M (.builtin "len") vs L1 Q) : ke X H0 M (.Call (.Name "len" p) (e :: es) [] pos) σ L Q := ke_callB hg hm bo_len he hpl h
theorem cb_max (hg : Gl X "max") (hm : X.mg "max" = none) (he : starEach (e :: es) X.env = (false, eval e X.env) :: starEach es X.env) (hpl : (backTo pos (starEach es X.env)).any (·.1) = false) (h : ka X H0 M (e :: es) σ L fun vs L1 => rc X H0 M (.builtin "max") vs L1 Q) : ke X H0 M (.Call (.Name "max" p) (e :: es) [] pos) σ L Q := ke_callB hg hm bo_max he hpl h
theorem cb_min (hg : Gl X "min") (hm : X.mg "min" = none) (he : starEach (e :: es) X.env = (false, eval e X.env) :: starEach es X.env) (hpl : (backTo pos (starEach es X.env)).any (·.1) = false) (h : ka X H0 M (e :: es) σ L fun vs L1 => rc X H0 M (.builtin "min") vs L1 Q) : ke X H0 M (.Call (.Name "min" p) (e :: es) [] pos) σ L Q := ke_callB hg hm bo_min he hpl h
theorem cb_abs (hg : Gl X "abs") (hm : X.mg "abs" = none) (he : starEach (e :: es) X.env = (false, eval e X.env) :: starEach es X.env) (hpl : (backTo pos (starEach es X.env)).any (·.1) = false) (h : ka X H0 M (e :: es) σ L fun vs L1 => rc X H0 M (.builtin "abs") vs L1 Q) : ke X H0 M (.Call (.Name "abs" p) (e :: es) [] pos) σ L Q := ke_callB hg hm bo_abs he hpl h
theorem cb_repr (hg : Gl X "repr") (hm : X.mg "repr" = none) (he : starEach (e :: es) X.env = (false, eval e X.env) :: starEach es X.env) (hpl : (backTo pos (starEach es X.env)).any (·.1) = false) (h : ka X H0 M (e :: es) σ L fun vs L1 => rc X H0 M (.builtin "repr") vs L1 Q) : ke X H0 M (.Call (.Name "repr" p) (e :: es) [] pos) σ L Q := ke_callB hg hm bo_repr he hpl h
theorem cb_sum (hg : Gl X "sum") (hm : X.mg "sum" = none) (he : starEach (e :: es) X.env = (false, eval e X.env) :: starEach es X.env) (hpl : (backTo pos (starEach es X.env)).any (·.1) = false) (h : ka X H0 M (e :: es) σ L fun vs L1 => rc X H0 M (.builtin "sum") vs L1 Q) : ke X H0 M (.Call (.Name "sum" p) (e :: es) [] pos) σ L Q := ke_callB hg hm bo_sum he hpl h
theorem cb_all (hg : Gl X "all") (hm : X.mg "all" = none) (he : starEach (e :: es) X.env = (false, eval e X.env) :: starEach es X.env) (hpl : (backTo pos (starEach es X.env)).any (·.1) = false) (h : ka X H0 M (e :: es) σ L fun vs L1 => rc X H0 M (.builtin "all") vs L1 Q) : ke X H0 M (.Call (.Name "all" p) (e :: es) [] pos) σ L Q := ke_callB hg hm bo_all he hpl h
theorem cb_any (hg : Gl X "any") (hm : X.mg "any" = none) (he : starEach (e :: es) X.env = (false, eval e X.env) :: starEach es X.env) (hpl : (backTo pos (starEach es X.env)).any (·.1) = false) (h : ka X H0 M (e :: es) σ L fun vs L1 => rc X H0 M (.builtin "any") vs L1 Q) : ke X H0 M (.Call (.Name "any" p) (e :: es) [] pos) σ L Q := ke_callB hg hm bo_any he hpl h
theorem cb_sorted (hg : Gl X "sorted") (hm : X.mg "sorted" = none) (he : starEach (e :: es) X.env = (false, eval e X.env) :: starEach es X.env) (hpl : (backTo pos (starEach es X.env)).any (·.1) = false) (h : ka X H0 M (e :: es) σ L fun vs L1 => rc X H0 M (.builtin "sorted") vs L1 Q) : ke X H0 M (.Call (.Name "sorted" p) (e :: es) [] pos) σ L Q := ke_callB hg hm bo_sorted he hpl h
theorem cb_int (hg : Gl X "int") (hm : X.mg "int" = none) (he : starEach (e :: es) X.env = (false, eval e X.env) :: starEach es X.env) (hpl : (backTo pos (starEach es X.env)).any (·.1) = false) (h : ka X H0 M (e :: es) σ L fun vs L1 => rc X H0 M (.type "int") vs L1 Q) : ke X H0 M (.Call (.Name "int" p) (e :: es) [] pos) σ L Q := ke_callY hg hm bo_int he hpl h
theorem cb_bool (hg : Gl X "bool") (hm : X.mg "bool" = none) (he : starEach (e :: es) X.env = (false, eval e X.env) :: starEach es X.env) (hpl : (backTo pos (starEach es X.env)).any (·.1) = false) (h : ka X H0 M (e :: es) σ L fun vs L1 => rc X H0 M (.type "bool") vs L1 Q) : ke X H0 M (.Call (.Name "bool" p) (e :: es) [] pos) σ L Q := ke_callY hg hm bo_bool he hpl h
theorem cb_str (hg : Gl X "str") (hm : X.mg "str" = none) (he : starEach (e :: es) X.env = (false, eval e X.env) :: starEach es X.env) (hpl : (backTo pos (starEach es X.env)).any (·.1) = false) (h : ka X H0 M (e :: es) σ L fun vs L1 => rc X H0 M (.type "str") vs L1 Q) : ke X H0 M (.Call (.Name "str" p) (e :: es) [] pos) σ L Q := ke_callY hg hm bo_str he hpl h
theorem cb_list (hg : Gl X "list") (hm : X.mg "list" = none) (he : starEach (e :: es) X.env = (false, eval e X.env) :: starEach es X.env) (hpl : (backTo pos (starEach es X.env)).any (·.1) = false) (h : ka X H0 M (e :: es) σ L fun vs L1 => rc X H0 M (.type "list") vs L1 Q) : ke X H0 M (.Call (.Name "list" p) (e :: es) [] pos) σ L Q := ke_callY hg hm bo_list he hpl h
theorem cb_tuple (hg : Gl X "tuple") (hm : X.mg "tuple" = none) (he : starEach (e :: es) X.env = (false, eval e X.env) :: starEach es X.env) (hpl : (backTo pos (starEach es X.env)).any (·.1) = false) (h : ka X H0 M (e :: es) σ L fun vs L1 => rc X H0 M (.type "tuple") vs L1 Q) : ke X H0 M (.Call (.Name "tuple" p) (e :: es) [] pos) σ L Q := ke_callY hg hm bo_tuple he hpl h
theorem bo_set : bootBuiltins ("set" : Str) = some (.type "set") := by decide +kernel
theorem cb_set (hg : Gl X "set") (hm : X.mg "set" = none) (he : starEach (e :: es) X.env = (false, eval e X.env) :: starEach es X.env) (hpl : (backTo pos (starEach es X.env)).any (·.1) = false) (h : ka X H0 M (e :: es) σ L fun vs L1 => rc X H0 M (.type "set") vs L1 Q) : ke X H0 M (.Call (.Name "set" p) (e :: es) [] pos) σ L Q := ke_callY hg hm bo_set he hpl h
end
/-- the built-ins are as they were -/
abbrev Blt (mg : Str → Option Value) : Prop := ∀ x ∈ (["isinstance", "len", "max", "min", "abs", "repr", "sum", "all", "any", "sorted", "int", "bool", "str", "list", "tuple", "range", "enumerate", "zip", "super", "set", "divmod", "next", "type", "dict", "ValueError"] : List Str), mg x = none

def top (i : Nat) : Stmt := PySem.Challenge.pw_onwardlines_k15_timetables_judged.main.body.getD i (.Pass ⟨0, 0, 0, 0⟩)
abbrev s_is_integer : Stmt := top 8
theorem sc_is_integer : FnScope ["thing"] ["thing"] (defScope s_is_integer) := ⟨rfl, rfl, rfl, by decide +kernel, rfl, by decide +kernel, by decide +kernel⟩
theorem lo_is_integer : ∀ x ∈ (["thing"] : List Str), (defScope s_is_integer).names.lookup x = some .local ∨ (defScope s_is_integer).names.lookup x = some .cell := by decide +kernel
theorem bi_is_integer {K : PySem.W.Frag} : ∀ (f : Addr) (fd : FuncData), Fun K "is_integer" "is_integer" s_is_integer f fd → Binds K fd ["thing"] [] := fun _ _ F => F.binds fun _ _ _ _ _ _ us hl => match us, hl with | [_], _ => rfl
theorem pl_is_integer : ∀ x ∈ (["thing"] : List Str), (x == ("__debug__" : Str)) = false ∧ (x == ("__classdict__" : Str)) = false := by decide +kernel
abbrev s_all_fit : Stmt := top 9
theorem sc_all_fit : FnScope ["headways", "ordered", "small", "great"] ["headways"] (defScope s_all_fit) := ⟨rfl, rfl, rfl, by decide +kernel, rfl, by decide +kernel, by decide +kernel⟩
theorem lo_all_fit : ∀ x ∈ (["headways", "ordered"] : List Str), (defScope s_all_fit).names.lookup x = some .local ∨ (defScope s_all_fit).names.lookup x = some .cell := by decide +kernel
theorem bi_all_fit {K : PySem.W.Frag} : ∀ (f : Addr) (fd : FuncData), Fun K "all_fit" "all_fit" s_all_fit f fd → Binds K fd ["headways"] [] := fun _ _ F => F.binds fun _ _ _ _ _ _ us hl => match us, hl with | [_], _ => rfl
theorem pl_all_fit : ∀ x ∈ (["headways", "ordered"] : List Str), (x == ("__debug__" : Str)) = false ∧ (x == ("__classdict__" : Str)) = false := by decide +kernel
abbrev s_is_below : Stmt := top 10
theorem sc_is_below : FnScope ["thing", "bound"] ["thing", "bound"] (defScope s_is_below) := ⟨rfl, rfl, rfl, by decide +kernel, rfl, by decide +kernel, by decide +kernel⟩
theorem lo_is_below : ∀ x ∈ (["thing", "bound"] : List Str), (defScope s_is_below).names.lookup x = some .local ∨ (defScope s_is_below).names.lookup x = some .cell := by decide +kernel
theorem bi_is_below {K : PySem.W.Frag} : ∀ (f : Addr) (fd : FuncData), Fun K "is_below" "is_below" s_is_below f fd → Binds K fd ["thing", "bound"] [] := fun _ _ F => F.binds fun _ _ _ _ _ _ us hl => match us, hl with | [_, _], _ => rfl
theorem pl_is_below : ∀ x ∈ (["thing", "bound"] : List Str), (x == ("__debug__" : Str)) = false ∧ (x == ("__classdict__" : Str)) = false := by decide +kernel
abbrev s_is_row : Stmt := top 14
theorem sc_is_row : FnScope ["thing", "many", "part"] ["thing", "many"] (defScope s_is_row) := ⟨rfl, rfl, rfl, by decide +kernel, rfl, by decide +kernel, by decide +kernel⟩
theorem lo_is_row : ∀ x ∈ (["thing", "many"] : List Str), (defScope s_is_row).names.lookup x = some .local ∨ (defScope s_is_row).names.lookup x = some .cell := by decide +kernel
theorem bi_is_row {K : PySem.W.Frag} : ∀ (f : Addr) (fd : FuncData), Fun K "is_row" "is_row" s_is_row f fd → Binds K fd ["thing", "many"] [] := fun _ _ F => F.binds fun _ _ _ _ _ _ us hl => match us, hl with | [_, _], _ => rfl
theorem pl_is_row : ∀ x ∈ (["thing", "many"] : List Str), (x == ("__debug__" : Str)) = false ∧ (x == ("__classdict__" : Str)) = false := by decide +kernel
abbrev s_is_planned : Stmt := top 15
theorem sc_is_planned : FnScope ["thing"] ["thing"] (defScope s_is_planned) := ⟨rfl, rfl, rfl, by decide +kernel, rfl, by decide +kernel, by decide +kernel⟩
theorem lo_is_planned : ∀ x ∈ (["thing"] : List Str), (defScope s_is_planned).names.lookup x = some .local ∨ (defScope s_is_planned).names.lookup x = some .cell := by decide +kernel
theorem bi_is_planned {K : PySem.W.Frag} : ∀ (f : Addr) (fd : FuncData), Fun K "is_planned" "is_planned" s_is_planned f fd → Binds K fd ["thing"] [] := fun _ _ F => F.binds fun _ _ _ _ _ _ us hl => match us, hl with | [_], _ => rfl
theorem pl_is_planned : ∀ x ∈ (["thing"] : List Str), (x == ("__debug__" : Str)) = false ∧ (x == ("__classdict__" : Str)) = false := by decide +kernel
abbrev s_is_wish : Stmt := top 16
theorem sc_is_wish : FnScope ["thing", "many"] ["thing", "many"] (defScope s_is_wish) := ⟨rfl, rfl, rfl, by decide +kernel, rfl, by decide +kernel, by decide +kernel⟩
theorem lo_is_wish : ∀ x ∈ (["thing", "many"] : List Str), (defScope s_is_wish).names.lookup x = some .local ∨ (defScope s_is_wish).names.lookup x = some .cell := by decide +kernel
theorem bi_is_wish {K : PySem.W.Frag} : ∀ (f : Addr) (fd : FuncData), Fun K "is_wish" "is_wish" s_is_wish f fd → Binds K fd ["thing", "many"] [] := fun _ _ F => F.binds fun _ _ _ _ _ _ us hl => match us, hl with | [_, _], _ => rfl
theorem pl_is_wish : ∀ x ∈ (["thing", "many"] : List Str), (x == ("__debug__" : Str)) = false ∧ (x == ("__classdict__" : Str)) = false := by decide +kernel
abbrev s_is_fixing : Stmt := top 17
theorem sc_is_fixing : FnScope ["thing", "lines"] ["thing", "lines"] (defScope s_is_fixing) := ⟨rfl, rfl, rfl, by decide +kernel, rfl, by decide +kernel, by decide +kernel⟩
theorem lo_is_fixing : ∀ x ∈ (["thing", "lines"] : List Str), (defScope s_is_fixing).names.lookup x = some .local ∨ (defScope s_is_fixing).names.lookup x = some .cell := by decide +kernel
theorem bi_is_fixing {K : PySem.W.Frag} : ∀ (f : Addr) (fd : FuncData), Fun K "is_fixing" "is_fixing" s_is_fixing f fd → Binds K fd ["thing", "lines"] [] := fun _ _ F => F.binds fun _ _ _ _ _ _ us hl => match us, hl with | [_, _], _ => rfl
theorem pl_is_fixing : ∀ x ∈ (["thing", "lines"] : List Str), (x == ("__debug__" : Str)) = false ∧ (x == ("__classdict__" : Str)) = false := by decide +kernel
abbrev s_check_lines : Stmt := top 18
theorem sc_check_lines : FnScope ["lines", "row", "every", "ride"] ["lines"] (defScope s_check_lines) := ⟨rfl, rfl, rfl, by decide +kernel, rfl, by decide +kernel, by decide +kernel⟩
theorem lo_check_lines : ∀ x ∈ (["lines"] : List Str), (defScope s_check_lines).names.lookup x = some .local ∨ (defScope s_check_lines).names.lookup x = some .cell := by decide +kernel
theorem bi_check_lines {K : PySem.W.Frag} : ∀ (f : Addr) (fd : FuncData), Fun K "check_lines" "check_lines" s_check_lines f fd → Binds K fd ["lines"] [] := fun _ _ F => F.binds fun _ _ _ _ _ _ us hl => match us, hl with | [_], _ => rfl
theorem pl_check_lines : ∀ x ∈ (["lines"] : List Str), (x == ("__debug__" : Str)) = false ∧ (x == ("__classdict__" : Str)) = false := by decide +kernel
abbrev s_check_wishes : Stmt := top 19
theorem sc_check_wishes : FnScope ["wishes", "many", "row"] ["wishes", "many"] (defScope s_check_wishes) := ⟨rfl, rfl, rfl, by decide +kernel, rfl, by decide +kernel, by decide +kernel⟩
theorem lo_check_wishes : ∀ x ∈ (["wishes", "many"] : List Str), (defScope s_check_wishes).names.lookup x = some .local ∨ (defScope s_check_wishes).names.lookup x = some .cell := by decide +kernel
theorem bi_check_wishes {K : PySem.W.Frag} : ∀ (f : Addr) (fd : FuncData), Fun K "check_wishes" "check_wishes" s_check_wishes f fd → Binds K fd ["wishes", "many"] [] := fun _ _ F => F.binds fun _ _ _ _ _ _ us hl => match us, hl with | [_, _], _ => rfl
theorem pl_check_wishes : ∀ x ∈ (["wishes", "many"] : List Str), (x == ("__debug__" : Str)) = false ∧ (x == ("__classdict__" : Str)) = false := by decide +kernel
abbrev s_check_fixed : Stmt := top 20
theorem sc_check_fixed : FnScope ["fixed", "lines", "i", "at", "row"] ["fixed", "lines"] (defScope s_check_fixed) := ⟨rfl, rfl, rfl, by decide +kernel, rfl, by decide +kernel, by decide +kernel⟩
theorem lo_check_fixed : ∀ x ∈ (["fixed", "lines"] : List Str), (defScope s_check_fixed).names.lookup x = some .local ∨ (defScope s_check_fixed).names.lookup x = some .cell := by decide +kernel
theorem bi_check_fixed {K : PySem.W.Frag} : ∀ (f : Addr) (fd : FuncData), Fun K "check_fixed" "check_fixed" s_check_fixed f fd → Binds K fd ["fixed", "lines"] [] := fun _ _ F => F.binds fun _ _ _ _ _ _ us hl => match us, hl with | [_, _], _ => rfl
theorem pl_check_fixed : ∀ x ∈ (["fixed", "lines"] : List Str), (x == ("__debug__" : Str)) = false ∧ (x == ("__classdict__" : Str)) = false := by decide +kernel
abbrev s_shift_of : Stmt := top 21
theorem sc_shift_of : FnScope ["lines", "wish", "i", "_", "walk"] ["lines", "wish"] (defScope s_shift_of) := ⟨rfl, rfl, rfl, by decide +kernel, rfl, by decide +kernel, by decide +kernel⟩
theorem lo_shift_of : ∀ x ∈ (["lines", "wish", "i", "_", "walk"] : List Str), (defScope s_shift_of).names.lookup x = some .local ∨ (defScope s_shift_of).names.lookup x = some .cell := by decide +kernel
theorem bi_shift_of {K : PySem.W.Frag} : ∀ (f : Addr) (fd : FuncData), Fun K "shift_of" "shift_of" s_shift_of f fd → Binds K fd ["lines", "wish"] [] := fun _ _ F => F.binds fun _ _ _ _ _ _ us hl => match us, hl with | [_, _], _ => rfl
theorem pl_shift_of : ∀ x ∈ (["lines", "wish", "i", "_", "walk"] : List Str), (x == ("__debug__" : Str)) = false ∧ (x == ("__classdict__" : Str)) = false := by decide +kernel
abbrev s_steps_of : Stmt := top 22
theorem sc_steps_of : FnScope ["modulus", "lines", "wishes", "i", "steps", "k", "wish", "j", "_", "shift"] ["modulus", "lines", "wishes"] (defScope s_steps_of) := ⟨rfl, rfl, rfl, by decide +kernel, rfl, by decide +kernel, by decide +kernel⟩
theorem lo_steps_of : ∀ x ∈ (["modulus", "lines", "wishes", "i", "steps", "k", "wish", "j", "_", "shift"] : List Str), (defScope s_steps_of).names.lookup x = some .local ∨ (defScope s_steps_of).names.lookup x = some .cell := by decide +kernel
theorem bi_steps_of {K : PySem.W.Frag} : ∀ (f : Addr) (fd : FuncData), Fun K "steps_of" "steps_of" s_steps_of f fd → Binds K fd ["modulus", "lines", "wishes"] [] := fun _ _ F => F.binds fun _ _ _ _ _ _ us hl => match us, hl with | [_, _, _], _ => rfl
theorem pl_steps_of : ∀ x ∈ (["modulus", "lines", "wishes", "i", "steps", "k", "wish", "j", "_", "shift"] : List Str), (x == ("__debug__" : Str)) = false ∧ (x == ("__classdict__" : Str)) = false := by decide +kernel
abbrev s_Level_init : Stmt := inClass (top 23) 0
theorem sc_Level_init : FnScope ["self", "modulus", "lines", "wishes", "starts", "steps", "root"] ["self", "modulus", "lines", "wishes", "starts"] (defScope s_Level_init) := ⟨rfl, rfl, rfl, by decide +kernel, rfl, by decide +kernel, by decide +kernel⟩
theorem lo_Level_init : ∀ x ∈ (["self", "modulus", "lines", "wishes", "starts", "steps", "root"] : List Str), (defScope s_Level_init).names.lookup x = some .local ∨ (defScope s_Level_init).names.lookup x = some .cell := by decide +kernel
theorem bi_Level_init {K : PySem.W.Frag} : ∀ (f : Addr) (fd : FuncData), Fun K "__init__" "Level.__init__" s_Level_init f fd → Binds K fd ["self", "modulus", "lines", "wishes", "starts"] [] := fun _ _ F => F.binds fun _ _ _ _ _ _ us hl => match us, hl with | [_, _, _, _, _], _ => rfl
theorem pl_Level_init : ∀ x ∈ (["self", "modulus", "lines", "wishes", "starts", "steps", "root"] : List Str), (x == ("__debug__" : Str)) = false ∧ (x == ("__classdict__" : Str)) = false := by decide +kernel
abbrev s_Level_grow : Stmt := inClass (top 23) 1
theorem sc_Level_grow : FnScope ["self", "root", "steps", "waiting", "line", "other", "shift", "step"] ["self", "root", "steps"] (defScope s_Level_grow) := ⟨rfl, rfl, rfl, by decide +kernel, rfl, by decide +kernel, by decide +kernel⟩
theorem lo_Level_grow : ∀ x ∈ (["self", "root", "steps", "waiting", "line", "other", "shift", "step"] : List Str), (defScope s_Level_grow).names.lookup x = some .local ∨ (defScope s_Level_grow).names.lookup x = some .cell := by decide +kernel
theorem bi_Level_grow {K : PySem.W.Frag} : ∀ (f : Addr) (fd : FuncData), Fun K "_grow" "Level._grow" s_Level_grow f fd → Binds K fd ["self", "root", "steps"] [] := fun _ _ F => F.binds fun _ _ _ _ _ _ us hl => match us, hl with | [_, _, _], _ => rfl
theorem pl_Level_grow : ∀ x ∈ (["self", "root", "steps", "waiting", "line", "other", "shift", "step"] : List Str), (x == ("__debug__" : Str)) = false ∧ (x == ("__classdict__" : Str)) = false := by decide +kernel
abbrev s_Level_place : Stmt := inClass (top 23) 2
theorem sc_Level_place : FnScope ["self", "line", "root", "offset", "way"] ["self", "line", "root", "offset", "way"] (defScope s_Level_place) := ⟨rfl, rfl, rfl, by decide +kernel, rfl, by decide +kernel, by decide +kernel⟩
theorem lo_Level_place : ∀ x ∈ (["self", "line", "root", "offset", "way"] : List Str), (defScope s_Level_place).names.lookup x = some .local ∨ (defScope s_Level_place).names.lookup x = some .cell := by decide +kernel
theorem bi_Level_place {K : PySem.W.Frag} : ∀ (f : Addr) (fd : FuncData), Fun K "_place" "Level._place" s_Level_place f fd → Binds K fd ["self", "line", "root", "offset", "way"] [] := fun _ _ F => F.binds fun _ _ _ _ _ _ us hl => match us, hl with | [_, _, _, _, _], _ => rfl
theorem pl_Level_place : ∀ x ∈ (["self", "line", "root", "offset", "way"] : List Str), (x == ("__debug__" : Str)) = false ∧ (x == ("__classdict__" : Str)) = false := by decide +kernel
abbrev s_Plan_init : Stmt := inClass (top 24) 0
theorem sc_Plan_init : FnScope ["self", "lines", "wishes", "fixed", "starts", "moduli", "i", "at", "modulus", "every", "ride"] ["self", "lines", "wishes", "fixed"] (defScope s_Plan_init) := ⟨rfl, rfl, rfl, by decide +kernel, rfl, by decide +kernel, by decide +kernel⟩
theorem lo_Plan_init : ∀ x ∈ (["self", "lines", "wishes", "fixed", "starts", "moduli"] : List Str), (defScope s_Plan_init).names.lookup x = some .local ∨ (defScope s_Plan_init).names.lookup x = some .cell := by decide +kernel
theorem bi_Plan_init {K : PySem.W.Frag} : ∀ (f : Addr) (fd : FuncData), Fun K "__init__" "Plan.__init__" s_Plan_init f fd → Binds K fd ["self", "lines", "wishes", "fixed"] [] := fun _ _ F => F.binds fun _ _ _ _ _ _ us hl => match us, hl with | [_, _, _, _], _ => rfl
theorem pl_Plan_init : ∀ x ∈ (["self", "lines", "wishes", "fixed", "starts", "moduli"] : List Str), (x == ("__debug__" : Str)) = false ∧ (x == ("__classdict__" : Str)) = false := by decide +kernel
abbrev s_Plan_is_timetable : Stmt := inClass (top 24) 1
theorem sc_Plan_is_timetable : FnScope ["self", "thing", "wish", "at", "row", "i"] ["self", "thing"] (defScope s_Plan_is_timetable) := ⟨rfl, rfl, rfl, by decide +kernel, rfl, by decide +kernel, by decide +kernel⟩
theorem lo_Plan_is_timetable : ∀ x ∈ (["self", "thing"] : List Str), (defScope s_Plan_is_timetable).names.lookup x = some .local ∨ (defScope s_Plan_is_timetable).names.lookup x = some .cell := by decide +kernel
theorem bi_Plan_is_timetable {K : PySem.W.Frag} : ∀ (f : Addr) (fd : FuncData), Fun K "is_timetable" "Plan.is_timetable" s_Plan_is_timetable f fd → Binds K fd ["self", "thing"] [] := fun _ _ F => F.binds fun _ _ _ _ _ _ us hl => match us, hl with | [_, _], _ => rfl
theorem kb_Plan_is_timetable {K : PySem.W.Frag} : ∀ (f : Addr) (fd : FuncData), Fun K "is_timetable" "Plan.is_timetable" s_Plan_is_timetable f fd → ∀ (s : Shared) (u : Value) (ws : List Value), ws.length = 1 → BindsTo s fd ⟨[u], (["thing"] : List Str).zip ws⟩ ((["self", "thing"] : List Str).zip (u :: ws)) := fun _ _ F s u ws hl => by
  obtain ⟨oc, od, kV, doc, pm, an, cdv, ct, osl, rfl, lk, hcd⟩ := F.ex
  match ws, hl with
  | [_], _ => exact .of_eq rfl
theorem pl_Plan_is_timetable : ∀ x ∈ (["self", "thing"] : List Str), (x == ("__debug__" : Str)) = false ∧ (x == ("__classdict__" : Str)) = false := by decide +kernel
abbrev s_Plan_holds : Stmt := inClass (top 24) 2
theorem sc_Plan_holds : FnScope ["self", "wish", "timetable", "i", "j", "_", "late"] ["self", "wish", "timetable"] (defScope s_Plan_holds) := ⟨rfl, rfl, rfl, by decide +kernel, rfl, by decide +kernel, by decide +kernel⟩
theorem lo_Plan_holds : ∀ x ∈ (["self", "wish", "timetable", "i", "j", "_", "late"] : List Str), (defScope s_Plan_holds).names.lookup x = some .local ∨ (defScope s_Plan_holds).names.lookup x = some .cell := by decide +kernel
theorem bi_Plan_holds {K : PySem.W.Frag} : ∀ (f : Addr) (fd : FuncData), Fun K "_holds" "Plan._holds" s_Plan_holds f fd → Binds K fd ["self", "wish", "timetable"] [] := fun _ _ F => F.binds fun _ _ _ _ _ _ us hl => match us, hl with | [_, _, _], _ => rfl
theorem pl_Plan_holds : ∀ x ∈ (["self", "wish", "timetable", "i", "j", "_", "late"] : List Str), (x == ("__debug__" : Str)) = false ∧ (x == ("__classdict__" : Str)) = false := by decide +kernel
abbrev s_urn : Stmt := top 26
theorem sc_urn : FnScope ["script", "k", "cell"] ["script", "k"] (defScope s_urn) := ⟨rfl, rfl, rfl, by decide +kernel, rfl, by decide +kernel, by decide +kernel⟩
theorem lo_urn : ∀ x ∈ (["script", "k", "cell"] : List Str), (defScope s_urn).names.lookup x = some .local ∨ (defScope s_urn).names.lookup x = some .cell := by decide +kernel
theorem bi_urn {K : PySem.W.Frag} : ∀ (f : Addr) (fd : FuncData), Fun K "_law_urn" "_law_urn" s_urn f fd → Binds K fd ["script", "k"] [] := fun _ _ F => F.binds fun _ _ _ _ _ _ us hl => match us, hl with | [_, _], _ => rfl
theorem pl_urn : ∀ x ∈ (["script", "k", "cell"] : List Str), (x == ("__debug__" : Str)) = false ∧ (x == ("__classdict__" : Str)) = false := by decide +kernel
abbrev s_tug : Stmt := top 27
theorem sc_tug : FnScope ["urn", "size", "digit", "mixed"] ["urn", "size"] (defScope s_tug) := ⟨rfl, rfl, rfl, by decide +kernel, rfl, by decide +kernel, by decide +kernel⟩
theorem lo_tug : ∀ x ∈ (["urn", "size", "digit", "mixed"] : List Str), (defScope s_tug).names.lookup x = some .local ∨ (defScope s_tug).names.lookup x = some .cell := by decide +kernel
theorem bi_tug {K : PySem.W.Frag} : ∀ (f : Addr) (fd : FuncData), Fun K "_law_tug" "_law_tug" s_tug f fd → Binds K fd ["urn", "size"] [] := fun _ _ F => F.binds fun _ _ _ _ _ _ us hl => match us, hl with | [_, _], _ => rfl
theorem pl_tug : ∀ x ∈ (["urn", "size", "digit", "mixed"] : List Str), (x == ("__debug__" : Str)) = false ∧ (x == ("__classdict__" : Str)) = false := by decide +kernel
abbrev s_chain : Stmt := top 28
theorem sc_chain : FnScope ["urn", "found", "turn"] ["urn"] (defScope s_chain) := ⟨rfl, rfl, rfl, by decide +kernel, rfl, by decide +kernel, by decide +kernel⟩
theorem lo_chain : ∀ x ∈ (["urn", "found", "turn"] : List Str), (defScope s_chain).names.lookup x = some .local ∨ (defScope s_chain).names.lookup x = some .cell := by decide +kernel
theorem bi_chain {K : PySem.W.Frag} : ∀ (f : Addr) (fd : FuncData), Fun K "_law_chain" "_law_chain" s_chain f fd → Binds K fd ["urn"] [] := fun _ _ F => F.binds fun _ _ _ _ _ _ us hl => match us, hl with | [_], _ => rfl
theorem pl_chain : ∀ x ∈ (["urn", "found", "turn"] : List Str), (x == ("__debug__" : Str)) = false ∧ (x == ("__classdict__" : Str)) = false := by decide +kernel
abbrev s_scene : Stmt := top 29
theorem sc_scene : FnScope ["urn", "chain", "most", "links", "bad", "pairs", "ats", "looks", "held", "turn", "gap", "some", "one", "two", "least", "times", "shift", "walk", "rate", "other", "own"] ["urn", "chain", "most", "links", "bad"] (defScope s_scene) := ⟨rfl, rfl, rfl, by decide +kernel, rfl, by decide +kernel, by decide +kernel⟩
theorem lo_scene : ∀ x ∈ (["urn", "chain", "most", "links", "bad", "pairs", "ats", "looks", "held", "turn", "gap", "some", "one", "two", "least", "times", "shift", "walk", "rate", "other", "own"] : List Str), (defScope s_scene).names.lookup x = some .local ∨ (defScope s_scene).names.lookup x = some .cell := by decide +kernel
theorem bi_scene {K : PySem.W.Frag} : ∀ (f : Addr) (fd : FuncData), Fun K "_law_scene" "_law_scene" s_scene f fd → Binds K fd ["urn", "chain", "most", "links", "bad"] [] := fun _ _ F => F.binds fun _ _ _ _ _ _ us hl => match us, hl with | [_, _, _, _, _], _ => rfl
theorem pl_scene : ∀ x ∈ (["urn", "chain", "most", "links", "bad", "pairs", "ats", "looks", "held", "turn", "gap", "some", "one", "two", "least", "times", "shift", "walk", "rate", "other", "own"] : List Str), (x == ("__debug__" : Str)) = false ∧ (x == ("__classdict__" : Str)) = false := by decide +kernel
abbrev s_holds : Stmt := top 30
theorem sc_holds : FnScope ["pairs", "looks", "held", "ats", "one", "two", "walk", "least", "at", "pair", "own"] ["pairs", "looks", "held", "ats"] (defScope s_holds) := ⟨rfl, rfl, rfl, by decide +kernel, rfl, by decide +kernel, by decide +kernel⟩
theorem lo_holds : ∀ x ∈ (["pairs", "looks", "held", "ats", "one", "two", "walk", "least"] : List Str), (defScope s_holds).names.lookup x = some .local ∨ (defScope s_holds).names.lookup x = some .cell := by decide +kernel
theorem bi_holds {K : PySem.W.Frag} : ∀ (f : Addr) (fd : FuncData), Fun K "_law_holds" "_law_holds" s_holds f fd → Binds K fd ["pairs", "looks", "held", "ats"] [] := fun _ _ F => F.binds fun _ _ _ _ _ _ us hl => match us, hl with | [_, _, _, _], _ => rfl
theorem pl_holds : ∀ x ∈ (["pairs", "looks", "held", "ats", "one", "two", "walk", "least"] : List Str), (x == ("__debug__" : Str)) = false ∧ (x == ("__classdict__" : Str)) = false := by decide +kernel
abbrev s_due : Stmt := top 31
theorem sc_due : FnScope ["pairs", "looks", "held", "item", "at"] ["pairs", "looks", "held", "item"] (defScope s_due) := ⟨rfl, rfl, rfl, by decide +kernel, rfl, by decide +kernel, by decide +kernel⟩
theorem lo_due : ∀ x ∈ (["pairs", "looks", "held", "item"] : List Str), (defScope s_due).names.lookup x = some .local ∨ (defScope s_due).names.lookup x = some .cell := by decide +kernel
theorem bi_due {K : PySem.W.Frag} : ∀ (f : Addr) (fd : FuncData), Fun K "_law_due" "_law_due" s_due f fd → Binds K fd ["pairs", "looks", "held", "item"] [] := fun _ _ F => F.binds fun _ _ _ _ _ _ us hl => match us, hl with | [_, _, _, _], _ => rfl
theorem pl_due : ∀ x ∈ (["pairs", "looks", "held", "item"] : List Str), (x == ("__debug__" : Str)) = false ∧ (x == ("__classdict__" : Str)) = false := by decide +kernel
abbrev s_others : Stmt := top 32
theorem sc_others : FnScope ["urn", "pairs", "ats", "at", "two", "gap", "own", "odd", "found", "shifted", "more", "one", "pair"] ["urn", "pairs", "ats"] (defScope s_others) := ⟨rfl, rfl, rfl, by decide +kernel, rfl, by decide +kernel, by decide +kernel⟩
theorem lo_others : ∀ x ∈ (["urn", "pairs", "ats", "at", "two", "gap", "own", "odd", "found", "shifted", "more"] : List Str), (defScope s_others).names.lookup x = some .local ∨ (defScope s_others).names.lookup x = some .cell := by decide +kernel
theorem bi_others {K : PySem.W.Frag} : ∀ (f : Addr) (fd : FuncData), Fun K "_law_others" "_law_others" s_others f fd → Binds K fd ["urn", "pairs", "ats"] [] := fun _ _ F => F.binds fun _ _ _ _ _ _ us hl => match us, hl with | [_, _, _], _ => rfl
theorem pl_others : ∀ x ∈ (["urn", "pairs", "ats", "at", "two", "gap", "own", "odd", "found", "shifted", "more"] : List Str), (x == ("__debug__" : Str)) = false ∧ (x == ("__classdict__" : Str)) = false := by decide +kernel
abbrev s_right : Stmt := top 33
theorem sc_right : FnScope ["urn", "pairs", "looks", "held", "ats", "one", "more", "item", "kept", "due", "told", "turn", "pair"] ["urn", "pairs", "looks", "held", "ats"] (defScope s_right) := ⟨rfl, rfl, rfl, by decide +kernel, rfl, by decide +kernel, by decide +kernel⟩
theorem lo_right : ∀ x ∈ (["urn", "pairs", "looks", "held", "ats", "one", "more", "item", "kept", "due", "told"] : List Str), (defScope s_right).names.lookup x = some .local ∨ (defScope s_right).names.lookup x = some .cell := by decide +kernel
theorem bi_right {K : PySem.W.Frag} : ∀ (f : Addr) (fd : FuncData), Fun K "_law_right" "_law_right" s_right f fd → Binds K fd ["urn", "pairs", "looks", "held", "ats"] [] := fun _ _ F => F.binds fun _ _ _ _ _ _ us hl => match us, hl with | [_, _, _, _, _], _ => rfl
theorem pl_right : ∀ x ∈ (["urn", "pairs", "looks", "held", "ats", "one", "more", "item", "kept", "due", "told"] : List Str), (x == ("__debug__" : Str)) = false ∧ (x == ("__classdict__" : Str)) = false := by decide +kernel
abbrev s_law : Stmt := top 34
theorem sc_law : FnScope ["script", "k", "urn", "most", "links", "chain", "bad", "pairs", "looks", "held", "ats", "one", "told", "item"] ["script"] (defScope s_law) := ⟨rfl, rfl, rfl, by decide +kernel, rfl, by decide +kernel, by decide +kernel⟩
theorem lo_law : ∀ x ∈ (["script", "k", "urn", "most", "links", "chain", "bad", "pairs", "looks", "held", "ats", "one", "told"] : List Str), (defScope s_law).names.lookup x = some .local ∨ (defScope s_law).names.lookup x = some .cell := by decide +kernel
theorem bi_law {K : PySem.W.Frag} : ∀ (f : Addr) (fd : FuncData), Fun K "law" "law" s_law f fd → Binds K fd ["script"] [] := fun _ _ F => F.binds fun _ _ _ _ _ _ us hl => match us, hl with | [_], _ => rfl
theorem pl_law : ∀ x ∈ (["script", "k", "urn", "most", "links", "chain", "bad", "pairs", "looks", "held", "ats", "one", "told"] : List Str), (x == ("__debug__" : Str)) = false ∧ (x == ("__classdict__" : Str)) = false := by decide +kernel

/-! ### lines: data and promises -/
inductive Kd where
  | line | walk | stop
  deriving DecidableEq
abbrev kdS : Kd → Str
  | .line => "line" | .walk => "walk" | .stop => "stop"
structure Exs where
  HeadwayError : Addr
  InvalidLine : Addr
  InvalidRoute : Addr
  InvalidWishes : Addr
  InvalidFixed : Addr
  InvalidNumber : Addr
  InvalidIndex : Addr
  NotFitting : Addr
  NothingToUndo : Addr
  NotPossible : Addr
  InvalidText : Addr
structure Cs3 where
  l : Addr
  w : Addr
  s : Addr
  r : Addr
  x : Exs
abbrev Cs3.of (c : Cs3) : Kd → Addr
  | .line => c.l | .walk => c.w | .stop => c.s
/-- one class -/
abbrev Is1 (C : Addr) : Addr → Prop := fun D => D = C
abbrev Ln (c : Cs3) : Addr → Prop := fun C => C = c.l ∨ C = c.w ∨ C = c.s
theorem Ln.of (c : Cs3) : ∀ k, Ln c (c.of k)
  | .line => .inl rfl | .walk => .inr (.inl rfl) | .stop => .inr (.inr rfl)
abbrev lf (e t r : Int) : List (Str × V) := [("_every", .int e), ("_at", .int t), ("_ride", .int r)]
abbrev lineO (C dx : Addr) (e t r : Int) : HO := .ins C dx (lf e t r)
theorem n1 : ¬ (("_every" : Str) = "_at") := by decide +kernel
theorem n2 : ¬ (("_every" : Str) = "_ride") := by decide +kernel
theorem n3 : ¬ (("_at" : Str) = "_ride") := by decide +kernel
theorem put1 (v : V) : putF "_every" v [] = ([("_every", v)] : List (Str × V)) := rfl
theorem put2 (u v : V) : putF "_at" v ([("_every", u)] : List (Str × V)) = ([("_every", u), ("_at", v)] : List (Str × V)) := by
  show (if ("_every" : Str) = "_at" then [(("_every" : Str), v)] else (("_every" : Str), u) :: putF "_at" v []) = ([("_every", u), ("_at", v)] : List (Str × V))
  rw [if_neg n1]; rfl
theorem put3 (u v x : V) : putF "_ride" x ([("_every", u), ("_at", v)] : List (Str × V)) = ([("_every", u), ("_at", v), ("_ride", x)] : List (Str × V)) := by
  show (if ("_every" : Str) = "_ride" then _ else (("_every" : Str), u) :: (if ("_at" : Str) = "_ride" then [(("_at" : Str), x)] else (("_at" : Str), v) :: putF "_ride" x [])) = ([("_every", u), ("_at", v), ("_ride", x)] : List (Str × V))
  rw [if_neg n2, if_neg n3]; rfl
theorem q1 : (("_at" : Str) == "_every") = false := by decide +kernel
theorem q2 : (("_ride" : Str) == "_every") = false := by decide +kernel
theorem q3 : (("_ride" : Str) == "_at") = false := by decide +kernel
theorem lk_every {e t r : Int} : (lf e t r).lookup ("_every" : Str) = some (.int e) := by rw [List.lookup_cons, beq_self_eq_true]
theorem lk_at {e t r : Int} : (lf e t r).lookup ("_at" : Str) = some (.int t) := by rw [List.lookup_cons, q1, List.lookup_cons, beq_self_eq_true]
theorem lk_ride {e t r : Int} : (lf e t r).lookup ("_ride" : Str) = some (.int r) := by rw [List.lookup_cons, q2, List.lookup_cons, q3, List.lookup_cons, beq_self_eq_true]
theorem lk_no {e t r : Int} {m : Str} (h1 : (m == ("_every" : Str)) = false) (h2 : (m == ("_at" : Str)) = false) (h3 : (m == ("_ride" : Str)) = false) : (lf e t r).lookup m = none := by rw [List.lookup_cons, h1, List.lookup_cons, h2, List.lookup_cons, h3]; rfl
/-- what a class of the family is to the reads -/
structure LnK (K : PySem.W.Frag) (C : Addr) : Prop where
  cls : Cls K C
  n1 : NoAttr K C "_every"
  n2 : NoAttr K C "_at"
  n3 : NoAttr K C "_ride"
section
variable {K : PySem.W.Frag} {L : LL} {Q : V → LL → Prop} {a C dx : Addr} {e t r : Int}
theorem fld_every {B : V → Prop} (ia : At L a (lineO C dx e t r)) (hK : LnK K C) (q : B (.int e)) : ∃ a' C' dx' fs v, V.ref a = .ref a' ∧ At L a' (.ins C' dx' fs) ∧ Cls K C' ∧ NoAttr K C' "_every" ∧ fs.lookup ("_every" : Str) = some v ∧ B v := ⟨a, C, dx, _, _, rfl, ia, hK.cls, hK.n1, lk_every, q⟩
theorem fld_at {B : V → Prop} (ia : At L a (lineO C dx e t r)) (hK : LnK K C) (q : B (.int t)) : ∃ a' C' dx' fs v, V.ref a = .ref a' ∧ At L a' (.ins C' dx' fs) ∧ Cls K C' ∧ NoAttr K C' "_at" ∧ fs.lookup ("_at" : Str) = some v ∧ B v := ⟨a, C, dx, _, _, rfl, ia, hK.cls, hK.n2, lk_at, q⟩
theorem fld_ride {B : V → Prop} (ia : At L a (lineO C dx e t r)) (hK : LnK K C) (q : B (.int r)) : ∃ a' C' dx' fs v, V.ref a = .ref a' ∧ At L a' (.ins C' dx' fs) ∧ Cls K C' ∧ NoAttr K C' "_ride" ∧ fs.lookup ("_ride" : Str) = some v ∧ B v := ⟨a, C, dx, _, _, rfl, ia, hK.cls, hK.n3, lk_ride, q⟩
theorem fld_kind {B : V → Prop} {v : V} {u : Value} (ia : At L a (lineO C dx e t r)) (hK : LnK K C) (hc : Con K C "KIND" v u) (q : B v) : ∃ a' C' dx' fs w u, V.ref a = .ref a' ∧ At L a' (.ins C' dx' fs) ∧ Cls K C' ∧ Con K C' "KIND" w u ∧ fs.lookup ("KIND" : Str) = none ∧ B w :=
  ⟨a, C, dx, _, v, u, rfl, ia, hK.cls, hc, lk_no (by decide +kernel) (by decide +kernel) (by decide +kernel), q⟩
theorem ke_kind {X : Cx} {H0 : Hp} {M : Addr → Prop} {x : Expr} {σ : L2.St} {pos : Pos} (hb : attributeBase x "KIND" X.env (eval x X.env) = eval x X.env) (h : ke X H0 M x σ L fun y L1 => ∃ a C dx fs v u, y = .ref a ∧ At L1 a (.ins C dx fs) ∧ Cls X.K C ∧ Con X.K C "KIND" v u ∧ fs.lookup ("KIND" : Str) = none ∧ Q v L1) : ke X H0 M (.Attribute x "KIND" pos) σ L Q := ke_con hb h
variable {H0 : Hp} {M : Addr → Prop} {nx : LL → Prop} {g : HO → LL} {u v x : V}
theorem set_every (s : Spot L a (.ins C dx []) g) (c : H0 a = none ∨ M a) (hK : LnK K C) (q : nx (g (.ins C dx [("_every", v)]))) : ∃ a' C' dx' fs g', V.ref a = .ref a' ∧ Spot L a' (.ins C' dx' fs) g' ∧ (H0 a' = none ∨ M a') ∧ Cls K C' ∧ NoAttr K C' "_every" ∧ fs.length < 1000 ∧ nx (g' (.ins C' dx' (putF "_every" v fs))) :=
  ⟨a, C, dx, _, g, rfl, s, c, hK.cls, hK.n1, by decide, by rw [put1]; exact q⟩
theorem set_at (s : Spot L a (.ins C dx [("_every", u)]) g) (c : H0 a = none ∨ M a) (hK : LnK K C) (q : nx (g (.ins C dx [("_every", u), ("_at", v)]))) : ∃ a' C' dx' fs g', V.ref a = .ref a' ∧ Spot L a' (.ins C' dx' fs) g' ∧ (H0 a' = none ∨ M a') ∧ Cls K C' ∧ NoAttr K C' "_at" ∧ fs.length < 1000 ∧ nx (g' (.ins C' dx' (putF "_at" v fs))) :=
  ⟨a, C, dx, _, g, rfl, s, c, hK.cls, hK.n2, by show 1 < 1000; decide, by rw [put2]; exact q⟩
theorem set_ride (s : Spot L a (.ins C dx [("_every", u), ("_at", v)]) g) (c : H0 a = none ∨ M a) (hK : LnK K C) (q : nx (g (.ins C dx [("_every", u), ("_at", v), ("_ride", x)]))) : ∃ a' C' dx' fs g', V.ref a = .ref a' ∧ Spot L a' (.ins C' dx' fs) g' ∧ (H0 a' = none ∨ M a') ∧ Cls K C' ∧ NoAttr K C' "_ride" ∧ fs.length < 1000 ∧ nx (g' (.ins C' dx' (putF "_ride" x fs))) :=
  ⟨a, C, dx, _, g, rfl, s, c, hK.cls, hK.n3, by show 2 < 1000; decide, by rw [put3]; exact q⟩
end
/-! ### promises of a line -/
def spIsInt : Sp := fun vs H Q _ => ∃ i : Int, vs = [.int i] ∧ RetP H Q (.bl true) []
/-- a line's method without a change: v comes out -/
def spLine (c : Cs3) (v : Int → Int → Int → Int → V) : Sp := fun vs H Q _ => ∃ a C dx e t r p, vs = [.ref a, .int p] ∧ H a = some (lineO C dx e t r) ∧ Ln c C ∧ 0 < e ∧ RetP H Q (v e t r p) []
def spProp (c : Cs3) (v : Int → Int → Int → V) : Sp := fun vs H Q _ => ∃ a C dx e t r, vs = [.ref a] ∧ H a = some (lineO C dx e t r) ∧ Ln c C ∧ RetP H Q (v e t r) []
abbrev depV (e t _r p : Int) : V := .int (p + (t - p) % e)
abbrev arrV (e t r p : Int) : V := .int (p + (t - p) % e + r)
abbrev latV (e t r p : Int) : V := .int (p - r - (p - r - t) % e)
def spStarts (c : Cs3) : Sp := fun vs H Q _ => ∃ a C dx e t r p, vs = [.ref a, .int p] ∧ H a = some (lineO C dx e t r) ∧ Ln c C ∧ 0 < e ∧
  ((p - r - t) % e = 0 → ∀ q, H q = none → RetP H Q (.ref q) [(q, .tup [.int (p - r - e + 1), .int (p - r)])]) ∧ ((p - r - t) % e ≠ 0 → RetP H Q .non [])
def spInit (c : Cs3) : Sp := fun vs H Q _ => ∃ a C dx e t r, vs = [.ref a, .int e, .int t, .int r] ∧ H a = some (.ins C dx []) ∧ Ln c C ∧ 0 ≤ t ∧ t < e ∧ 0 ≤ r ∧ RetC H Q .non a (lineO C dx e t r) []
section
variable {c : Cs3} {H0 : Hp} {M : Addr → Prop} {L : LL} {Q : V → LL → Prop} {a C dx : Addr} {e t r p : Int} {E : XK} {g : HO → LL}
theorem rs_isInt {i : Int} (q : Q (.bl true) L) : rs H0 M spIsInt E [.int i] L Q := fun H z => ⟨i, rfl, z.p0 q⟩
theorem rs_line {v : Int → Int → Int → Int → V} (ia : At L a (lineO C dx e t r)) (hC : Ln c C) (he : 0 < e) (q : Q (v e t r p) L) : rs H0 M (spLine c v) E [.ref a, .int p] L Q := fun H z => ⟨a, C, dx, e, t, r, p, rfl, z.get ia, hC, he, z.p0 q⟩
theorem rs_prop {v : Int → Int → Int → V} (ia : At L a (lineO C dx e t r)) (hC : Ln c C) (q : Q (v e t r) L) : rs H0 M (spProp c v) E [.ref a] L Q := fun H z => ⟨a, C, dx, e, t, r, rfl, z.get ia, hC, z.p0 q⟩
theorem rs_starts (ia : At L a (lineO C dx e t r)) (hC : Ln c C) (he : 0 < e) (q1 : (p - r - t) % e = 0 → ∀ q, H0 q = none → Q (.ref q) ((q, .tup [.int (p - r - e + 1), .int (p - r)]) :: L)) (q2 : (p - r - t) % e ≠ 0 → Q .non L) : rs H0 M (spStarts c) E [.ref a, .int p] L Q :=
  fun H z => ⟨a, C, dx, e, t, r, p, rfl, z.get ia, hC, he, fun h q n => z.pp (q1 h q (z.fresh n)), fun h => z.p0 (q2 h)⟩
theorem rs_init (s : Spot L a (.ins C dx []) g) (cc : H0 a = none ∨ M a) (hC : Ln c C) (h1 : 0 ≤ t) (h2 : t < e) (h3 : 0 ≤ r) (q : Q .non (g (lineO C dx e t r))) : rs H0 M (spInit c) E [.ref a, .int e, .int t, .int r] L Q :=
  fun H z => ⟨a, C, dx, e, t, r, rfl, z.at_ _ s.mem, hC, h1, h2, h3, z.c0 s cc q⟩
/-- the receiver of a method of a line -/
theorem recv {m : Str} {B : Addr → Prop} (ia : At L a (lineO C dx e t r)) (hC : Ln c C) (h1 : (m == ("_every" : Str)) = false) (h2 : (m == ("_at" : Str)) = false) (h3 : (m == ("_ride" : Str)) = false) (q : B a) :
    ∃ a' C' dx' fs, V.ref a = .ref a' ∧ At L a' (.ins C' dx' fs) ∧ Ln c C' ∧ fs.lookup m = none ∧ B a' := ⟨a, C, dx, _, rfl, ia, hC, lk_no h1 h2 h3, q⟩
theorem recvP {B : Addr → Prop} (ia : At L a (lineO C dx e t r)) (hC : Ln c C) (q : B a) :
    ∃ a' C' dx' fs, V.ref a = .ref a' ∧ At L a' (.ins C' dx' fs) ∧ Ln c C' ∧ B a' := ⟨a, C, dx, _, rfl, ia, hC, q⟩
theorem recvO (ia : At L a (lineO C dx e t r)) (hC : Ln c C) : ∃ C' dx' fs, At L a (.ins C' dx' fs) ∧ Ln c C' := ⟨C, dx, _, ia, hC⟩
end
def spWalk (c : Cs3) : Sp := fun vs H Q _ => ∃ a dx r, vs = [.ref a, .int r] ∧ H a = some (.ins c.w dx []) ∧ 0 ≤ r ∧ RetC H Q .non a (lineO c.w dx 1 0 r) []
def spStop (c : Cs3) : Sp := fun vs H Q _ => ∃ a dx e t, vs = [.ref a, .int e, .int t] ∧ H a = some (.ins c.s dx []) ∧ 0 ≤ t ∧ t < e ∧ RetC H Q .non a (lineO c.s dx e t 0) []
section
variable {c : Cs3} {H0 : Hp} {M : Addr → Prop} {L : LL} {Q : V → LL → Prop} {a C dx : Addr} {e t r p : Int} {E : XK} {g : HO → LL}
theorem rs_walk (s : Spot L a (.ins c.w dx []) g) (cc : H0 a = none ∨ M a) (h3 : 0 ≤ r) (q : Q .non (g (lineO c.w dx 1 0 r))) : rs H0 M (spWalk c) E [.ref a, .int r] L Q := fun H z => ⟨a, dx, r, rfl, z.at_ _ s.mem, h3, z.c0 s cc q⟩
theorem rs_stop (s : Spot L a (.ins c.s dx []) g) (cc : H0 a = none ∨ M a) (h1 : 0 ≤ t) (h2 : t < e) (q : Q .non (g (lineO c.s dx e t 0))) : rs H0 M (spStop c) E [.ref a, .int e, .int t] L Q := fun H z => ⟨a, dx, e, t, rfl, z.at_ _ s.mem, h1, h2, z.c0 s cc q⟩
end

/-! ### headways that fit -/
def spAllFit : Sp := fun vs H Q _ => ∃ (q : Addr) (is : List Int), vs = [.ref q] ∧ H q = some (.lst (is.map V.int)) ∧ (∀ x ∈ is, 1 ≤ x) ∧ is.length ≤ 1000 ∧ ∀ b : Bool, (b = true ↔ is.Pairwise FitI) → RetP H Q (.bl b) []
theorem rs_allFit {H0 : Hp} {M : Addr → Prop} {L : LL} {Q : V → LL → Prop} {q : Addr} {is : List Int} {E : XK} (ia : At L q (.lst (is.map V.int))) (h1 : ∀ x ∈ is, 1 ≤ x) (h2 : is.length ≤ 1000) (k : ∀ b : Bool, (b = true ↔ is.Pairwise FitI) → Q (.bl b) L) : rs H0 M spAllFit E [.ref q] L Q :=
  fun H z => ⟨q, is, rfl, z.get ia, h1, h2, fun b hb => z.p0 (k b hb)⟩
def spCheck : Sp := fun vs H Q _ => ∃ (e f : Int), vs = [.int e, .int f] ∧ 1 ≤ e ∧ 1 ≤ f ∧ FitI e f ∧ RetP H Q .non []
theorem rs_check {H0 : Hp} {M : Addr → Prop} {L : LL} {Q : V → LL → Prop} {e f : Int} {E : XK} (h1 : 1 ≤ e) (h2 : 1 ≤ f) (h3 : FitI e f) (k : Q .non L) : rs H0 M spCheck E [.int e, .int f] L Q := fun H z => ⟨e, f, rfl, h1, h2, h3, z.p0 k⟩

/-! ### sums, products of lines: promises -/
structure LOk (e t r : Int) : Prop where
  e1 : 0 < e
  t1 : 0 ≤ t
  t2 : t < e
  r1 : 0 ≤ r
abbrev sumO (c : Cs3) (dq : Addr) (e t r f u s : Int) : HO := lineO c.l dq (addE e f) (addT e t r f u) (addR e t r f u s)
abbrev prodO (c : Cs3) (dq : Addr) (e t r n : Int) : HO := lineO c.l dq e t (mulR e r n)
abbrev backO (c : Cs3) (dq : Addr) (e t r : Int) : HO := lineO c.l dq e (backT e t r) r
theorem LOk.sum {e t r f u s : Int} (a : LOk e t r) (b : LOk f u s) : LOk (addE e f) (addT e t r f u) (addR e t r f u s) :=
  let ⟨x, y, z, w⟩ := add_rng (t := t) (r := r) (u := u) (s := s) a.e1 b.e1 a.t1 a.t2 a.r1 b.r1; ⟨x, y, z, w⟩
theorem LOk.prod {e t r n : Int} (a : LOk e t r) (h : 1 ≤ n) : LOk e t (mulR e r n) := ⟨a.e1, a.t1, a.t2, mulR_rng a.e1 a.r1 h⟩
theorem LOk.back {e t r : Int} (a : LOk e t r) : LOk e (backT e t r) r := ⟨a.e1, (backT_rng a.e1).1, (backT_rng a.e1).2, a.r1⟩
def spAdd (c : Cs3) : Sp := fun vs H Q _ => ∃ a C dx e t r b D dy f u s, vs = [.ref a, .ref b] ∧ H a = some (lineO C dx e t r) ∧ H b = some (lineO D dy f u s) ∧ Ln c C ∧ Ln c D ∧ LOk e t r ∧ LOk f u s ∧ FitI e f ∧ ∀ q dq, H q = none → RetP H Q (.ref q) [(q, sumO c dq e t r f u s)]
def spMul (c : Cs3) : Sp := fun vs H Q _ => ∃ a C dx e t r n, vs = [.ref a, .int n] ∧ H a = some (lineO C dx e t r) ∧ Ln c C ∧ LOk e t r ∧ e < 2 ^ 1000 ∧ r < 2 ^ 1000 ∧ 1 ≤ n ∧ n ≤ 1000000000000000000000000000000 ∧ ∀ q dq, H q = none → RetP H Q (.ref q) [(q, prodO c dq e t r n)]
def spLater (c : Cs3) : Sp := fun vs H Q _ => ∃ a C dx e t r b D dy f u s, vs = [.ref a, .ref b] ∧ H a = some (lineO C dx e t r) ∧ H b = some (lineO D dy f u s) ∧ Ln c C ∧ Ln c D ∧ LOk e t r ∧ LOk f u s ∧ FitI e f ∧ RetP H Q (.bl (laterB e t r f u s)) []
def spBack (c : Cs3) : Sp := fun vs H Q _ => ∃ a C dx e t r, vs = [.ref a] ∧ H a = some (lineO C dx e t r) ∧ Ln c C ∧ LOk e t r ∧ ∀ q dq, H q = none → RetP H Q (.ref q) [(q, backO c dq e t r)]
section
variable {c : Cs3} {H0 : Hp} {M : Addr → Prop} {L : LL} {Q : V → LL → Prop} {a b C D dx dy : Addr} {e t r f u s n : Int} {E : XK}
theorem rs_add (ia : At L a (lineO C dx e t r)) (ib : At L b (lineO D dy f u s)) (hC : Ln c C) (hD : Ln c D) (o1 : LOk e t r) (o2 : LOk f u s) (ft : FitI e f) (k : ∀ q dq, H0 q = none → Q (.ref q) ((q, sumO c dq e t r f u s) :: L)) : rs H0 M (spAdd c) E [.ref a, .ref b] L Q :=
  fun H z => ⟨a, C, dx, e, t, r, b, D, dy, f, u, s, rfl, z.get ia, z.get ib, hC, hD, o1, o2, ft, fun q dq n => z.pp (k q dq (z.fresh n))⟩
theorem rs_mul (ia : At L a (lineO C dx e t r)) (hC : Ln c C) (o1 : LOk e t r) (h1 : e < 2 ^ 1000) (h2 : r < 2 ^ 1000) (h3 : 1 ≤ n) (h4 : n ≤ 1000000000000000000000000000000) (k : ∀ q dq, H0 q = none → Q (.ref q) ((q, prodO c dq e t r n) :: L)) : rs H0 M (spMul c) E [.ref a, .int n] L Q :=
  fun H z => ⟨a, C, dx, e, t, r, n, rfl, z.get ia, hC, o1, h1, h2, h3, h4, fun q dq n => z.pp (k q dq (z.fresh n))⟩
theorem rs_later (ia : At L a (lineO C dx e t r)) (ib : At L b (lineO D dy f u s)) (hC : Ln c C) (hD : Ln c D) (o1 : LOk e t r) (o2 : LOk f u s) (ft : FitI e f) (k : Q (.bl (laterB e t r f u s)) L) : rs H0 M (spLater c) E [.ref a, .ref b] L Q :=
  fun H z => ⟨a, C, dx, e, t, r, b, D, dy, f, u, s, rfl, z.get ia, z.get ib, hC, hD, o1, o2, ft, z.p0 k⟩
theorem rs_back (ia : At L a (lineO C dx e t r)) (hC : Ln c C) (o1 : LOk e t r) (k : ∀ q dq, H0 q = none → Q (.ref q) ((q, backO c dq e t r) :: L)) : rs H0 M (spBack c) E [.ref a] L Q :=
  fun H z => ⟨a, C, dx, e, t, r, rfl, z.get ia, hC, o1, fun q dq n => z.pp (k q dq (z.fresh n))⟩
end
theorem fit_refl (e : Int) : FitI e e := .inl (Int.dvd_refl e)
theorem fit_one (e : Int) : FitI 1 e := .inl (Int.one_dvd e)
theorem fit_one' (e : Int) : FitI e 1 := .inr (Int.one_dvd e)
/-- the receiver of an operator -/
theorem ro_sum {X : Cx} {P : Program} {w : World} {K : PySem.W.Frag} {mg : Str → Option Value} {base : Heap} {k j : Nat} {N Nv : List Str} {sc : Scope} {c : Cs3} {a b C D dx dy : Addr} {e t r f u s : Int} {H0 : Hp} {M : Addr → Prop} {L : LL} {Q : V → LL → Prop}
    (bd : Body X P w K mg base k N Nv sc) (O : OpT P w K mg base CX0 j (Ln c) "add" (spAdd c)) (hj : Nat.ble j k = true) (ia : At L a (lineO C dx e t r)) (ib : At L b (lineO D dy f u s)) (hC : Ln c C) (hD : Ln c D) (o1 : LOk e t r) (o2 : LOk f u s) (ft : FitI e f)
    (q : ∀ q dq, H0 q = none → Q (.ref q) ((q, sumO c dq e t r f u s) :: L)) : ro X H0 M (binaryOp .Add) (.ref a) (.ref b) L Q := bd.bin O hj rfl ia hC ib hD (rs_add ia ib hC hD o1 o2 ft q)
theorem ro_prod {X : Cx} {P : Program} {w : World} {K : PySem.W.Frag} {mg : Str → Option Value} {base : Heap} {k j : Nat} {N Nv : List Str} {sc : Scope} {c : Cs3} {a C dx : Addr} {e t r n : Int} {H0 : Hp} {M : Addr → Prop} {L : LL} {Q : V → LL → Prop}
    (bd : Body X P w K mg base k N Nv sc) (O : OpT P w K mg base CX0 j (Ln c) "mul" (spMul c)) (hj : Nat.ble j k = true) (ty : ∃ fo ro, PySem.W.findIn K (.type "int") (PySem.dunder "mul") = some fo ∧ PySem.W.findIn K (.type "int") (dunderR "mul") = some ro) (sb : ∀ C, Ln c C → PySem.W.subIn K (.type "int") (.ref C) = some false)
    (ia : At L a (lineO C dx e t r)) (hC : Ln c C) (o1 : LOk e t r) (h1 : e < 2 ^ 1000) (h2 : r < 2 ^ 1000) (h3 : 1 ≤ n) (h4 : n ≤ 1000000000000000000000000000000)
    (q : ∀ q dq, H0 q = none → Q (.ref q) ((q, prodO c dq e t r n) :: L)) : ro X H0 M (binaryOp .Mult) (.ref a) (.int n) L Q := bd.binI O hj rfl ty (sb C hC) ia hC (rs_mul ia hC o1 h1 h2 h3 h4 q)

/-! ### the law's drawn numbers -/
abbrev feedO (a b c : Int) : HO := .lst [.int a, .int b, .int c]
def spFeed (K : PySem.W.Frag) : Sp := fun vs H Q _ => ∃ (s : Addr) (ns : List Int) (k : Int), vs = [.ref s, .int k] ∧ SqL K H s (ns.map V.int) ∧ 0 ≤ k ∧ ∀ q a b, H q = none → 0 ≤ a → RetP H Q (.ref q) [(q, feedO a b 0)]
def spPick : Sp := fun vs H Q _ => ∃ (f : Addr) (a b c n : Int), vs = [.ref f, .int n] ∧ H f = some (feedO a b c) ∧ 0 ≤ a ∧ 0 < n ∧ n.natAbs < 2 ^ 9000 ∧
  ∀ (r a' b' c' : Int), 0 ≤ r → r < n → 0 ≤ a' → RetC H Q (.int r) f (feedO a' b' c') []
theorem huge_bits {n : Int} (h0 : 0 < n) (h : n ≤ 1000000000000000000000000000000000000000000000000000000000000) : n.natAbs < 2 ^ 9000 := by
  have e : n.natAbs ≤ 1000000000000000000000000000000000000000000000000000000000000 := by omega
  have : (1000000000000000000000000000000000000000000000000000000000000 : Nat) < 2 ^ 200 := by decide +kernel
  have h2 : (2 : Nat) ^ 200 ≤ 2 ^ 9000 := Nat.pow_le_pow_right (by decide) (by decide)
  exact Nat.lt_of_lt_of_le (Nat.lt_of_le_of_lt e this) h2
section
variable {H0 : Hp} {M : Addr → Prop} {L : LL} {Q : V → LL → Prop} {f : Addr} {a b c n : Int} {E : XK} {g : HO → LL}
theorem rs_pick (s : Spot L f (feedO a b c) g) (cc : H0 f = none ∨ M f) (ha : 0 ≤ a) (h0 : 0 < n) (h1 : n ≤ 1000000000000000000000000000000000000000000000000000000000000) (q : ∀ r a' b' c', 0 ≤ r → r < n → 0 ≤ a' → Q (.int r) (g (feedO a' b' c'))) : rs H0 M spPick E [.ref f, .int n] L Q :=
  fun H z => ⟨f, a, b, c, n, rfl, z.at_ _ s.mem, ha, h0, huge_bits h0 h1, fun r a' b' c' h1 h2 h3 => z.c0 s cc (q r a' b' c' h1 h2 h3)⟩
theorem rs_feed {K : PySem.W.Frag} {s : Addr} {ns : List Int} {k : Int} (sq : SqL K H0 s (ns.map V.int)) (m : ¬ M s) (h0 : 0 ≤ k) (q : ∀ p a b, H0 p = none → 0 ≤ a → Q (.ref p) ((p, feedO a b 0) :: L)) : rs H0 M (spFeed K) E [.ref s, .int k] L Q :=
  fun H z => ⟨s, ns, k, rfl, z.seq sq m, h0, fun p a b n h => z.pp (q p a b (z.fresh n) h)⟩
end
/-- numbers of which each divides the next -/
structure ChainOk (top : Int) (is : List Int) : Prop where
  ne : is ≠ []
  rng : ∀ x ∈ is, 1 ≤ x ∧ x ≤ top
  dvd : is.Pairwise (· ∣ ·)
theorem ChainOk.one {top x : Int} (h : 1 ≤ x) (h2 : x ≤ top) : ChainOk top [x] := ⟨by simp, by simp; exact ⟨h, h2⟩, by simp⟩
theorem ChainOk.more {top x m : Int} {is : List Int} (h : ChainOk top (is ++ [x])) (hm : 1 ≤ m) (h2 : x * m ≤ top) : ChainOk top (is ++ [x] ++ [x * m]) := by
  have hx := h.rng x (by simp)
  refine ⟨by simp, fun y hy => ?_, ?_⟩
  · rcases List.mem_append.mp hy with z | z
    · exact h.rng y z
    · rw [List.mem_singleton.mp z]
      refine ⟨?_, h2⟩
      have := Int.mul_le_mul hx.1 hm (by omega) (by omega)
      omega
  · refine List.pairwise_append.mpr ⟨h.dvd, by simp, fun a ha b hb => ?_⟩
    rw [List.mem_singleton.mp hb]
    rcases List.mem_append.mp ha with z | z
    · exact Int.dvd_trans ((List.pairwise_append.mp h.dvd).2.2 a z x (by simp)) (Int.dvd_mul_right x m)
    · rw [List.mem_singleton.mp z]; exact Int.dvd_mul_right x m
abbrev topOf (g : Bool) : Int := if g then 100000000000000000000000000000000000000000000000000000000000 else 60
def spChain : Sp := fun vs H Q _ => ∃ (f : Addr) (a b c : Int) (g : Bool), vs = [.ref f, .bl g] ∧ H f = some (feedO a b c) ∧ 0 ≤ a ∧
  ∀ q a' b' c' is, H q = none → 0 ≤ a' → ChainOk (topOf g) is → is.length ≤ 7 → RetC H Q (.ref q) f (feedO a' b' c') [(q, .lst (is.map V.int))]
theorem rs_chain {H0 : Hp} {M : Addr → Prop} {L : LL} {Q : V → LL → Prop} {f : Addr} {a b c : Int} {E : XK} {g : HO → LL} {big : Bool} (s : Spot L f (feedO a b c) g) (cc : H0 f = none ∨ M f) (ha : 0 ≤ a)
    (q : ∀ p a' b' c' is, H0 p = none → 0 ≤ a' → ChainOk (topOf big) is → is.length ≤ 7 → Q (.ref p) ((p, .lst (is.map V.int)) :: g (feedO a' b' c'))) : rs H0 M spChain E [.ref f, .bl big] L Q :=
  fun H z => ⟨f, a, b, c, big, rfl, z.at_ _ s.mem, ha, fun p a' b' c' is n h1 h2 h3 => z.cc s cc (q p a' b' c' is (z.fresh n) h1 h2 h3)⟩
theorem top_ge (g : Bool) {x : Int} (h : x ≤ 60) : x ≤ topOf g := by
  cases g
  · exact h
  · show x ≤ 100000000000000000000000000000000000000000000000000000000000; omega
theorem top_le (g : Bool) {x : Int} (h : x ≤ topOf g) : x ≤ 100000000000000000000000000000000000000000000000000000000000 := by
  cases g
  · have : x ≤ 60 := h; omega
  · exact h
theorem bits {x : Int} {n : Nat} (c : Nat) (hc : Nat.ble c (2 ^ n - 1) = true) (h : -(c : Int) ≤ x ∧ x ≤ c) (hn : 0 < 2 ^ n := by exact Nat.pow_pos (by decide)) : x.natAbs < 2 ^ n := by
  have := Nat.le_of_ble_eq_true hc
  omega
/-- numbers of a line of a kind -/
structure NumOk (top : Int) (k : Kd) (e t r : Int) : Prop where
  e1 : 1 ≤ e
  e2 : e ≤ top
  t1 : 0 ≤ t
  t2 : t < e
  r1 : 0 ≤ r
  r2 : r ≤ 100000000000000000000000000000000000000000000000000000000000
  walk : k = .walk → e = 1 ∧ t = 0
  stop : k = .stop → r = 0
  r3 : r ≤ top
abbrev numO (k : Kd) (e t r : Int) : HO := .lst [.str (kdS k), .int e, .int t, .int r]
def spNumbers : Sp := fun vs H Q _ => ∃ (f ch : Addr) (a b c : Int) (is : List Int) (g : Bool), vs = [.ref f, .ref ch, .bl g] ∧ H f = some (feedO a b c) ∧ H ch = some (.lst (is.map V.int)) ∧ f ≠ ch ∧ 0 ≤ a ∧ ChainOk (topOf g) is ∧ is.length ≤ 7 ∧
  ∀ q a' b' c' k e t r, H q = none → 0 ≤ a' → NumOk (topOf g) k e t r → (e = 1 ∨ e ∈ is) → RetC H Q (.ref q) f (feedO a' b' c') [(q, numO k e t r)]
theorem rs_numbers {H0 : Hp} {M : Addr → Prop} {L : LL} {Q : V → LL → Prop} {f ch : Addr} {a b c : Int} {is : List Int} {E : XK} {g : HO → LL} {big : Bool} (s : Spot L f (feedO a b c) g) (ic : At L ch (.lst (is.map V.int))) (tw : Two L f ch) (cc : H0 f = none ∨ M f) (ha : 0 ≤ a) (ok : ChainOk (topOf big) is) (hl : is.length ≤ 7)
    (q : ∀ p a' b' c' k e t r, H0 p = none → 0 ≤ a' → NumOk (topOf big) k e t r → (e = 1 ∨ e ∈ is) → Q (.ref p) ((p, numO k e t r) :: g (feedO a' b' c'))) : rs H0 M spNumbers E [.ref f, .ref ch, .bl big] L Q :=
  fun H z => ⟨f, ch, a, b, c, is, big, rfl, z.at_ _ s.mem, z.get ic, tw.ne z.nd cc, ha, ok, hl, fun p a' b' c' k e t r n h1 h2 h3 => z.cc s cc (q p a' b' c' k e t r (z.fresh n) h1 h2 h3)⟩
theorem NumOk.lok {top : Int} {k : Kd} {e t r : Int} (h : NumOk top k e t r) : LOk e t r := ⟨by have := h.e1; omega, h.t1, h.t2, h.r1⟩
theorem pw_fit : ∀ {is : List Int}, is.Pairwise (· ∣ ·) → ∀ {e f : Int}, e ∈ is → f ∈ is → FitI e f
  | x :: r, h, e, f, he, hf => by
    obtain ⟨a, b⟩ := List.pairwise_cons.mp h
    rcases List.mem_cons.mp he with h1 | he
    · rcases List.mem_cons.mp hf with h2 | hf
      · rw [h1, h2]; exact fit_refl _
      · rw [h1]; exact .inl (a f hf)
    · rcases List.mem_cons.mp hf with h2 | hf
      · rw [h2]; exact .inr (a e he)
      · exact pw_fit b he hf
theorem ChainOk.fit {top : Int} {is : List Int} (h : ChainOk top is) {e f : Int} (he : e = 1 ∨ e ∈ is) (hf : f = 1 ∨ f ∈ is) : FitI e f := by
  rcases he with rfl | he
  · exact fit_one f
  · rcases hf with rfl | hf
    · exact fit_one' e
    · exact pw_fit h.dvd he hf
abbrev rideOf (g : Bool) : Int := if g then 10000000000000000000000000000000000000000 else 20
theorem rideOf_top (g : Bool) : rideOf g ≤ topOf g := by cases g <;> decide
theorem rideOf_rng (g : Bool) : 0 < rideOf g ∧ rideOf g ≤ 10000000000000000000000000000000000000000 := by cases g <;> decide
structure MkOk (k : Kd) (e t r : Int) : Prop where
  e1 : 1 ≤ e
  t1 : 0 ≤ t
  t2 : t < e
  r1 : 0 ≤ r
  walk : k = .walk → e = 1 ∧ t = 0
  stop : k = .stop → r = 0
theorem NumOk.mk' {top : Int} {k : Kd} {e t r : Int} (h : NumOk top k e t r) : MkOk k e t r := ⟨h.e1, h.t1, h.t2, h.r1, h.walk, h.stop⟩
theorem MkOk.lok {k : Kd} {e t r : Int} (h : MkOk k e t r) : LOk e t r := ⟨by have := h.e1; omega, h.t1, h.t2, h.r1⟩
def spMade (c : Cs3) : Sp := fun vs H Q _ => ∃ (n : Addr) (k : Kd) (e t r : Int), vs = [.ref n] ∧ H n = some (numO k e t r) ∧ MkOk k e t r ∧ ∀ q dq, H q = none → RetP H Q (.ref q) [(q, lineO (c.of k) dq e t r)]
theorem rs_madeK {c : Cs3} {H0 : Hp} {M : Addr → Prop} {L : LL} {Q : V → LL → Prop} {n : Addr} {k : Kd} {e t r : Int} {E : XK} (ia : At L n (numO k e t r)) (ok : MkOk k e t r) (q : ∀ p dp, H0 p = none → Q (.ref p) ((p, lineO (c.of k) dp e t r) :: L)) : rs H0 M (spMade c) E [.ref n] L Q :=
  fun H z => ⟨n, k, e, t, r, rfl, z.get ia, ok, fun p dp nn => z.pp (q p dp (z.fresh nn))⟩
theorem rs_made {c : Cs3} {H0 : Hp} {M : Addr → Prop} {L : LL} {Q : V → LL → Prop} {n : Addr} {top : Int} {k : Kd} {e t r : Int} {E : XK} (ia : At L n (numO k e t r)) (ok : NumOk top k e t r) (q : ∀ p dp, H0 p = none → Q (.ref p) ((p, lineO (c.of k) dp e t r) :: L)) : rs H0 M (spMade c) E [.ref n] L Q := rs_madeK ia ok.mk' q
def spMoment : Sp := fun vs H Q _ => ∃ (f : Addr) (a b c : Int) (g : Bool), vs = [.ref f, .bl g] ∧ H f = some (feedO a b c) ∧ 0 ≤ a ∧
  ∀ r a' b' c', 0 ≤ a' → -1000000000000000000000000000000000000000000000000000000000000 ≤ r → r ≤ 1000000000000000000000000000000000000000000000000000000000000 → RetC H Q (.int r) f (feedO a' b' c') []
theorem rs_moment {H0 : Hp} {M : Addr → Prop} {L : LL} {Q : V → LL → Prop} {f : Addr} {a b c : Int} {E : XK} {g : HO → LL} {big : Bool} (s : Spot L f (feedO a b c) g) (cc : H0 f = none ∨ M f) (ha : 0 ≤ a)
    (q : ∀ r a' b' c', 0 ≤ a' → -1000000000000000000000000000000000000000000000000000000000000 ≤ r → r ≤ 1000000000000000000000000000000000000000000000000000000000000 → Q (.int r) (g (feedO a' b' c'))) : rs H0 M spMoment E [.ref f, .bl big] L Q :=
  fun H z => ⟨f, a, b, c, big, rfl, z.at_ _ s.mem, ha, fun r a' b' c' h1 h2 h3 => z.c0 s cc (q r a' b' c' h1 h2 h3)⟩
theorem mul_bd {e d D : Int} (h0 : 0 ≤ e) (h1 : -D ≤ d) (h2 : d ≤ D) : -(e * D) ≤ e * d ∧ e * d ≤ e * D := by
  have a := Int.mul_le_mul_of_nonneg_left h2 h0
  have b := Int.mul_le_mul_of_nonneg_left h1 h0
  rw [Int.mul_neg] at b
  exact ⟨b, a⟩
abbrev Far (x : Int) : Prop := -10000000000000000000000000000000000000000000000000000000000000 ≤ x ∧ x ≤ 10000000000000000000000000000000000000000000000000000000000000
def spMoments : Sp := fun vs H Q _ => ∃ (f n : Addr) (a b c top : Int) (k : Kd) (e t r : Int), vs = [.ref f, .ref n] ∧ H f = some (feedO a b c) ∧ H n = some (numO k e t r) ∧ f ≠ n ∧ 0 ≤ a ∧ top ≤ 100000000000000000000000000000000000000000000000000000000000 ∧ NumOk top k e t r ∧
  ∀ (q : Addr) (a' b' c' : Int) (ms : List Int), H q = none → 0 ≤ a' → (∀ x ∈ ms, Far x) → ms.length = 6 → RetC H Q (.ref q) f (feedO a' b' c') [(q, .lst (ms.map V.int))]
theorem rs_moments {H0 : Hp} {M : Addr → Prop} {L : LL} {Q : V → LL → Prop} {f n : Addr} {a b c : Int} {k : Kd} {e t r : Int} {E : XK} {g : HO → LL} {big : Bool} (s : Spot L f (feedO a b c) g) (ia : At L n (numO k e t r)) (tw : Two L f n) (cc : H0 f = none ∨ M f) (ha : 0 ≤ a) (ok : NumOk (topOf big) k e t r)
    (q : ∀ (p : Addr) (a' b' c' : Int) (ms : List Int), H0 p = none → 0 ≤ a' → (∀ x ∈ ms, Far x) → ms.length = 6 → Q (.ref p) ((p, .lst (ms.map V.int)) :: g (feedO a' b' c'))) : rs H0 M spMoments E [.ref f, .ref n] L Q :=
  fun H z => ⟨f, n, a, b, c, topOf big, k, e, t, r, rfl, z.at_ _ s.mem, z.get ia, tw.ne z.nd cc, ha, top_le big (Int.le_refl _), ok, fun p a' b' c' ms nn h1 h2 h3 => z.cc s cc (q p a' b' c' ms (z.fresh nn) h1 h2 h3)⟩
def spRight : Sp := fun vs H Q _ => ∃ (f n : Addr) (a b c : Int) (g : Bool) (k : Kd) (e t r : Int), vs = [.ref f, .ref n] ∧ H f = some (feedO a b c) ∧ H n = some (numO k e t r) ∧ f ≠ n ∧ 0 ≤ a ∧ NumOk (topOf g) k e t r ∧
  ∀ a' b' c', 0 ≤ a' → RetC H Q (.bl true) f (feedO a' b' c') []
theorem rs_right {H0 : Hp} {M : Addr → Prop} {L : LL} {Q : V → LL → Prop} {f n : Addr} {a b c : Int} {k : Kd} {e t r : Int} {E : XK} {g : HO → LL} {big : Bool} (s : Spot L f (feedO a b c) g) (ia : At L n (numO k e t r)) (tw : Two L f n) (cc : H0 f = none ∨ M f) (ha : 0 ≤ a) (ok : NumOk (topOf big) k e t r)
    (q : ∀ (a' b' c' : Int), 0 ≤ a' → Q (.bl true) (g (feedO a' b' c'))) : rs H0 M spRight E [.ref f, .ref n] L Q :=
  fun H z => ⟨f, n, a, b, c, big, k, e, t, r, rfl, z.at_ _ s.mem, z.get ia, tw.ne z.nd cc, ha, ok, fun a' b' c' h => z.c0 s cc (q a' b' c' h)⟩
/-! ### rests -/
theorem emod_at {e y w x : Int} (hd : e ∣ y) (h0 : 0 ≤ w) (h1 : w < e) (hx : x = y + w) : x % e = w := by
  obtain ⟨z, rfl⟩ := hd
  rw [hx, Int.add_comm, Int.add_mul_emod_self_left, Int.emod_eq_of_lt h0 h1]
theorem dep_dvd (e t m : Int) : e ∣ (m + (t - m) % e - t) := ⟨-((t - m) / e), by have := Int.mul_ediv_add_emod (t - m) e; rw [Int.mul_neg]; omega⟩
theorem lat_dvd (e t x : Int) : e ∣ (x - (x - t) % e - t) := ⟨(x - t) / e, by have := Int.mul_ediv_add_emod (x - t) e; omega⟩
theorem dvd_flip {e x y : Int} (h : e ∣ (x - y)) : e ∣ (y - x) := by
  obtain ⟨z, hz⟩ := h
  exact ⟨-z, by rw [Int.mul_neg]; omega⟩
def spLaw (K : PySem.W.Frag) : Sp := fun vs H Q _ => ∃ (a : Addr) (ns : List Int), vs = [.ref a] ∧ SqL K H a (ns.map V.int) ∧ ns.length ≤ 63 ∧ ∀ H', Q (.bl true) H'
theorem eq_to {Q : VK} {b : Bool} {H : Hp} (e : b = true) (h : Q (.bl true) H) : Q (.bl b) H := by rw [e]; exact h

/-! ### plans -/
structure Cp where
  p : Addr
  l : Addr
def spUrn (K : PySem.W.Frag) : Sp := fun vs H Q _ => ∃ (s : Addr) (ns : List Int) (k : Int), vs = [.ref s, .int k] ∧ SqL K H s (ns.map V.int) ∧ 0 ≤ k ∧ k ≤ 1000 ∧
  ∀ q a b, H q = none → 0 ≤ a → 0 ≤ b → b ≤ 1000000000000000000000000000000000000000000 → RetP H Q (.ref q) [(q, feedO a b 0)]
def spTug : Sp := fun vs H Q _ => ∃ (f : Addr) (a b c n : Int), vs = [.ref f, .int n] ∧ H f = some (feedO a b c) ∧ 0 ≤ a ∧ 0 ≤ b ∧ b ≤ 1000000000000000000000000000000000000000000 ∧ 0 ≤ c ∧ c ≤ 1000000000000000000000000000000 ∧ 0 < n ∧ n ≤ 1000000000000000000000000000000000000000000000000000000000000 ∧
  ∀ (r a' c' : Int), 0 ≤ r → r < n → 0 ≤ a' → c ≤ c' → c' ≤ c + 1 → RetC H Q (.int r) f (feedO a' b c') []
section
variable {H0 : Hp} {M : Addr → Prop} {L : LL} {Q : V → LL → Prop} {f : Addr} {a b c n : Int} {E : XK} {g : HO → LL}
theorem rs_urn {K : PySem.W.Frag} {s : Addr} {ns : List Int} {k : Int} (sq : SqL K H0 s (ns.map V.int)) (m : ¬ M s) (h0 : 0 ≤ k) (h1 : k ≤ 1000) (q : ∀ p a b, H0 p = none → 0 ≤ a → 0 ≤ b → b ≤ 1000000000000000000000000000000000000000000 → Q (.ref p) ((p, feedO a b 0) :: L)) : rs H0 M (spUrn K) E [.ref s, .int k] L Q :=
  fun H z => ⟨s, ns, k, rfl, z.seq sq m, h0, h1, fun p a b n h h2 h3 => z.pp (q p a b (z.fresh n) h h2 h3)⟩
theorem rs_tug (s : Spot L f (feedO a b c) g) (cc : H0 f = none ∨ M f) (ha : 0 ≤ a) (hb : 0 ≤ b) (hb1 : b ≤ 1000000000000000000000000000000000000000000) (hc : 0 ≤ c) (hc1 : c ≤ 1000000000000000000000000000000) (h0 : 0 < n) (h1 : n ≤ 1000000000000000000000000000000000000000000000000000000000000)
    (q : ∀ r a' c', 0 ≤ r → r < n → 0 ≤ a' → c ≤ c' → c' ≤ c + 1 → Q (.int r) (g (feedO a' b c'))) : rs H0 M spTug E [.ref f, .int n] L Q :=
  fun H z => ⟨f, a, b, c, n, rfl, z.at_ _ s.mem, ha, hb, hb1, hc, hc1, h0, h1, fun r a' c' h1 h2 h3 h4 h5 => z.c0 s cc (q r a' c' h1 h2 h3 h4 h5)⟩
end
/-- headways of a plan: at most so great -/
abbrev topU : Int := 100000000000000000000000000000000000000000000000000
def spChainU : Sp := fun vs H Q _ => ∃ (f : Addr) (a b c : Int), vs = [.ref f] ∧ H f = some (feedO a b c) ∧ 0 ≤ a ∧ 0 ≤ b ∧ b ≤ 1000000000000000000000000000000000000000000 ∧ 0 ≤ c ∧ c ≤ 100000000000000000000000000000 ∧
  ∀ q a' c' is, H q = none → 0 ≤ a' → c ≤ c' → c' ≤ c + 100 → ChainOk topU is → is.length ≤ 4 → RetC H Q (.ref q) f (feedO a' b c') [(q, .lst (is.map V.int))]
theorem rs_chainU {H0 : Hp} {M : Addr → Prop} {L : LL} {Q : V → LL → Prop} {f : Addr} {a b c : Int} {E : XK} {g : HO → LL} (s : Spot L f (feedO a b c) g) (cc : H0 f = none ∨ M f) (ha : 0 ≤ a) (hb : 0 ≤ b) (hb1 : b ≤ 1000000000000000000000000000000000000000000) (hc : 0 ≤ c) (hc1 : c ≤ 100000000000000000000000000000)
    (q : ∀ p a' c' is, H0 p = none → 0 ≤ a' → c ≤ c' → c' ≤ c + 100 → ChainOk topU is → is.length ≤ 4 → Q (.ref p) ((p, .lst (is.map V.int)) :: g (feedO a' b c'))) : rs H0 M spChainU E [.ref f] L Q :=
  fun H z => ⟨f, a, b, c, rfl, z.at_ _ s.mem, ha, hb, hb1, hc, hc1, fun p a' c' is n h1 h2 h3 h4 h5 => z.cc s cc (q p a' c' is (z.fresh n) h1 h2 h3 h4 h5)⟩
/-- a tuple of two ints; of three -/
structure T2 where
  a : Addr
  x : Int
  y : Int
abbrev T2.v (r : T2) : V := .ref r.a
abbrev T2.o (r : T2) : Addr × HO := (r.a, .tup [.int r.x, .int r.y])
structure T3w where
  a : Addr
  x : Int
  y : Int
  z : Int
abbrev T3w.v (r : T3w) : V := .ref r.a
abbrev T3w.o (r : T3w) : Addr × HO := (r.a, .tup [.int r.x, .int r.y, .int r.z])
/-! ### any objects -/
inductive Pv (H : Hp) : V → String → Prop
  | non : Pv H .non "NoneType"
  | bl (b : Bool) : Pv H (.bl b) "bool"
  | int (i : Int) : Pv H (.int i) "int"
  | str (s : Str) : Pv H (.str s) "str"
  | lst {a : Addr} {xs : List V} (e : H a = some (.lst xs)) : Pv H (.ref a) "list"
  | tup {a : Addr} {xs : List V} (e : H a = some (.tup xs)) : Pv H (.ref a) "tuple"
  | dK {a : Addr} {kvs : List (Key × V)} (e : H a = some (.dK kvs)) : Pv H (.ref a) "dict"
section
variable {K : PySem.W.Frag} {H H' : Hp} {x : V} {t : String}
theorem Pv.ext (h : Pv H x t) (e : Ext H H') : Pv H' x t := by
  cases h with
  | non => exact .non
  | bl => exact .bl _
  | int => exact .int _
  | str => exact .str _
  | lst q => exact .lst (e _ _ q)
  | tup q => exact .tup (e _ _ q)
  | dK q => exact .dK (e _ _ q)
theorem Pv.tyx (h : Pv H x t) : TyX K H x (.type t) := by
  cases h with
  | non => exact .base .non
  | bl => exact .base (.bl _)
  | int => exact .base (.int _)
  | str => exact .base (.str _)
  | lst q => exact .base (.lst q)
  | tup q => exact .base (.tup q)
  | dK q => exact .base (.dK q)
end
def spIsIP : Sp := fun vs H Q _ => ∃ x t, vs = [x] ∧ Pv H x t ∧ RetP H Q (.bl (decide (t = "int"))) []
def belowV (x : V) (b : Int) : Bool := match x with | .int i => decide (0 ≤ i) && decide (i < b) | _ => false
def spBelow : Sp := fun vs H Q _ => ∃ x t b, vs = [x, .int b] ∧ Pv H x t ∧ RetP H Q (.bl (belowV x b)) []
def spRow : Sp := fun vs H Q _ => ∃ (a : Addr) (xs : List Int) (m : Int), vs = [.ref a, .int m] ∧ H a = some (.tup (xs.map V.int)) ∧ xs.length ≤ 1000 ∧ RetP H Q (.bl (decide ((xs.length : Int) = m))) []
def spPlanned : Sp := fun vs H Q _ => ∃ (a : Addr) (x y : Int), vs = [.ref a] ∧ H a = some (.tup [.int x, .int y]) ∧ 1 ≤ x ∧ 0 ≤ y ∧ RetP H Q (.bl true) []
def spWish : Sp := fun vs H Q _ => ∃ (a : Addr) (x y z m : Int), vs = [.ref a, .int m] ∧ H a = some (.tup [.int x, .int y, .int z]) ∧ 0 ≤ x ∧ x < m ∧ 0 ≤ y ∧ y < m ∧ 0 ≤ z ∧ RetP H Q (.bl true) []
section
variable {H0 : Hp} {M : Addr → Prop} {L : LL} {Q : V → LL → Prop} {E : XK} {a : Addr} {x y z m b : Int} {v : V} {t : String} {xs : List Int}
theorem rs_isIP (p : ∀ H, Hs H0 M L H → Pv H v t) (h : Q (.bl (decide (t = "int"))) L) : rs H0 M spIsIP E [v] L Q := fun H z => ⟨v, t, rfl, p H z, z.p0 h⟩
theorem rs_below (p : ∀ H, Hs H0 M L H → Pv H v t) (h : Q (.bl (belowV v b)) L) : rs H0 M spBelow E [v, .int b] L Q := fun H z => ⟨v, t, b, rfl, p H z, z.p0 h⟩
theorem rs_belowI (h : Q (.bl (decide (0 ≤ x) && decide (x < b))) L) : rs H0 M spBelow E [.int x, .int b] L Q := fun H z => ⟨.int x, "int", b, rfl, .int _, z.p0 h⟩
theorem rs_row (i : At L a (.tup (xs.map V.int))) (hl : xs.length ≤ 1000) (h : Q (.bl (decide ((xs.length : Int) = m))) L) : rs H0 M spRow E [.ref a, .int m] L Q := fun H z => ⟨a, xs, m, rfl, z.get i, hl, z.p0 h⟩
theorem rs_planned (i : At L a (.tup [.int x, .int y])) (h1 : 1 ≤ x) (h2 : 0 ≤ y) (h : Q (.bl true) L) : rs H0 M spPlanned E [.ref a] L Q := fun H z => ⟨a, x, y, rfl, z.get i, h1, h2, z.p0 h⟩
theorem rs_wish (i : At L a (.tup [.int x, .int y, .int z])) (h1 : 0 ≤ x) (h2 : x < m) (h3 : 0 ≤ y) (h4 : y < m) (h5 : 0 ≤ z) (h : Q (.bl true) L) : rs H0 M spWish E [.ref a, .int m] L Q := fun H w => ⟨a, x, y, z, m, rfl, w.get i, h1, h2, h3, h4, h5, w.p0 h⟩
end
def spFixing : Sp := fun vs H Q _ => ∃ (a l : Addr) (x y : Int) (ps : List T2), vs = [.ref a, .ref l] ∧ H a = some (.tup [.int x, .int y]) ∧ H l = some (.lst (ps.map T2.v)) ∧ (∀ p ∈ ps, H p.a = some p.o.2) ∧ 0 ≤ x ∧ x < ps.length ∧ (∀ p, ps[x.toNat]? = some p → 0 ≤ y ∧ y < p.x) ∧ RetP H Q (.bl true) []
theorem rs_fixing {H0 : Hp} {M : Addr → Prop} {L : LL} {Q : V → LL → Prop} {E : XK} {a l : Addr} {x y : Int} {ps : List T2} (i : At L a (.tup [.int x, .int y])) (il : At L l (.lst (ps.map T2.v))) (al : Alls T2.o L ps) (h1 : 0 ≤ x) (h2 : x < ps.length) (h3 : ∀ p, ps[x.toNat]? = some p → 0 ≤ y ∧ y < p.x) (h : Q (.bl true) L) : rs H0 M spFixing E [.ref a, .ref l] L Q :=
  fun H z => ⟨a, l, x, y, ps, rfl, z.get i, z.get il, al.get z, h1, h2, h3, z.p0 h⟩
def spCheckLines : Sp := fun vs H Q _ => ∃ (l : Addr) (ps : List T2), vs = [.ref l] ∧ H l = some (.lst (ps.map T2.v)) ∧ (∀ p ∈ ps, H p.a = some p.o.2) ∧ 1 ≤ ps.length ∧ ps.length ≤ 40 ∧ (∀ p ∈ ps, 1 ≤ p.x ∧ 0 ≤ p.y) ∧ (ps.map (·.x)).Pairwise FitI ∧ RetP H Q .non []
def spCheckWishes : Sp := fun vs H Q _ => ∃ (l : Addr) (ls : List T3w) (m : Int), vs = [.ref l, .int m] ∧ H l = some (.lst (ls.map T3w.v)) ∧ (∀ p ∈ ls, H p.a = some p.o.2) ∧ ls.length ≤ 80 ∧ (∀ p ∈ ls, 0 ≤ p.x ∧ p.x < m ∧ 0 ≤ p.y ∧ p.y < m ∧ 0 ≤ p.z) ∧ RetP H Q .non []
def spCheckFixed : Sp := fun vs H Q _ => ∃ (f l : Addr) (hs ps : List T2), vs = [.ref f, .ref l] ∧ H f = some (.lst (hs.map T2.v)) ∧ (∀ p ∈ hs, H p.a = some p.o.2) ∧ H l = some (.lst (ps.map T2.v)) ∧ (∀ p ∈ ps, H p.a = some p.o.2) ∧ hs.length ≤ 40 ∧ (hs.map (·.x)).Nodup ∧ (∀ h ∈ hs, 0 ≤ h.x ∧ h.x < ps.length ∧ ∀ p, ps[h.x.toNat]? = some p → 0 ≤ h.y ∧ h.y < p.x) ∧ RetP H Q .non []

structure Tx (P : Program) (K : PySem.W.Frag) (mg : Str → Option Value) (c : Cp) : Prop where
  is_integer : FunM K mg "is_integer" s_is_integer
  all_fit : FunM K mg "all_fit" s_all_fit
  is_below : FunM K mg "is_below" s_is_below
  is_row : FunM K mg "is_row" s_is_row
  is_planned : FunM K mg "is_planned" s_is_planned
  is_wish : FunM K mg "is_wish" s_is_wish
  is_fixing : FunM K mg "is_fixing" s_is_fixing
  check_lines : FunM K mg "check_lines" s_check_lines
  check_wishes : FunM K mg "check_wishes" s_check_wishes
  check_fixed : FunM K mg "check_fixed" s_check_fixed
  shift_of : FunM K mg "shift_of" s_shift_of
  steps_of : FunM K mg "steps_of" s_steps_of
  Level_init : FunI K mg "Level" c.l "Level.__init__" s_Level_init
  Level_grow : FunC K (Is1 c.l) "_grow" "Level._grow" s_Level_grow
  Level_place : FunC K (Is1 c.l) "_place" "Level._place" s_Level_place
  Plan_init : FunI K mg "Plan" c.p "Plan.__init__" s_Plan_init
  Plan_is_timetable : FunC K (Is1 c.p) "is_timetable" "Plan.is_timetable" s_Plan_is_timetable
  Plan_holds : FunC K (Is1 c.p) "_holds" "Plan._holds" s_Plan_holds
  urn : FunM K mg "_law_urn" s_urn
  tug : FunM K mg "_law_tug" s_tug
  chain : FunM K mg "_law_chain" s_chain
  scene : FunM K mg "_law_scene" s_scene
  holds : FunM K mg "_law_holds" s_holds
  due : FunM K mg "_law_due" s_due
  others : FunM K mg "_law_others" s_others
  right : FunM K mg "_law_right" s_right
  law : FunM K mg "law" s_law
  cls_p : Cls K c.p
  g_p : mg "Plan" = some (.ref c.p)
  na_p_lines : NoAttr K c.p "_lines"
  na_p_wishes : NoAttr K c.p "_wishes"
  na_p_fixed : NoAttr K c.p "_fixed"
  na_p_levels : NoAttr K c.p "_levels"
  cls_l : Cls K c.l
  g_l : mg "Level" = some (.ref c.l)
  na_lmodulus : NoAttr K c.l "modulus"
  na_lroots : NoAttr K c.l "roots"
  na_loffsets : NoAttr K c.l "offsets"
  na_lways : NoAttr K c.l "ways"
  mostl : ∃ t, mg "MOST_LINES" = some (.int 40 t)
  mostw : ∃ t, mg "MOST_WISHES" = some (.int 80 t)
  blt : Blt mg

theorem map_snoc (xs : List Int) (x : Int) : (xs ++ [x]).map V.int = xs.map V.int ++ [.int x] := by simp
theorem topB {i : Nat} (h : i ≤ 3) : 100000000000000000000 * (10000000000 : Int) ^ i ≤ topU := by
  rcases i with _ | _ | _ | _ | i
  · decide
  · decide
  · decide
  · decide
  · omega

local macro_rules | `(tactic| fail "at") => `(tactic| first | assumption | (with_reducible exact Xi.At.here) | ((with_reducible apply Xi.At.there); fail "at") | ((with_reducible refine Xi.At.lift (by with_reducible assumption) ?_); fail "at"))
local macro_rules | `(tactic| fail "ats") => `(tactic| first | assumption | exact Xi.Alls.self | ((with_reducible apply Xi.Alls.there); fail "ats"))
local macro_rules | `(tactic| fail "rtl") => `(tactic| first | assumption | ((with_reducible apply RtL.there); fail "rtl"))
local macro_rules | `(tactic| fail "cat") => `(tactic| repeat rw [List.cons_append])
local macro_rules | `(tactic| fail "spot") => `(tactic| first | (with_reducible exact Xi.Spot.here) | ((with_reducible apply Xi.Spot.there); fail "spot"))
local macro_rules | `(tactic| fail "aq") => `(tactic| first | (with_reducible refine aq_here ?_) | ((with_reducible refine aq_there ?_); fail "aq"))
local macro_rules | `(tactic| fail "sq") => `(tactic| first | (with_reducible refine sq_here ?_) | ((with_reducible refine sq_there ?_); fail "sq"))
local macro_rules | `(tactic| fail "lk") => `(tactic| first | (with_reducible refine lq_here ?_) | ((with_reducible refine lq_there ?_); fail "lk"))
local macro_rules | `(tactic| fail "pt") => `(tactic| first | (with_reducible refine pq_here ?_) | ((with_reducible refine pq_there ?_); fail "pt"))
local macro_rules | `(tactic| fail "mem") => `(tactic| first | (with_reducible exact List.mem_cons_self) | ((with_reducible refine List.mem_cons_of_mem _ ?_); fail "mem"))
local macro_rules | `(tactic| fail "sub") => `(tactic| first | exact List.Sublist.slnil | ((with_reducible refine List.Sublist.cons₂ _ ?_); fail "sub") | ((with_reducible refine List.Sublist.cons _ ?_); fail "sub") | assumption)
local macro_rules | `(tactic| fail "sub2") => `(tactic| first | exact List.Sublist.slnil | (with_reducible exact List.Sublist.refl _) | (with_reducible exact List.sublist_append_left _ _) | ((with_reducible refine List.Sublist.cons₂ _ ?_); fail "sub2") | ((with_reducible refine List.Sublist.cons _ ?_); fail "sub2"))
local macro_rules | `(tactic| fail "mine") => `(tactic| first | (refine .inl ?_; assumption) | exact .inr rfl | (refine .inr ?_; assumption))
local macro_rules | `(tactic| fail "ix") => `(tactic| ((with_reducible refine ix_k ?_); (fail "aq"); (first | (refine .inl ⟨_, rfl, _, rfl, ?_⟩) | (refine .inr ⟨_, rfl, _, rfl, ?_⟩))))
local macro_rules | `(tactic| fail "gf") => `(tactic| first | (exact Xi.Gfs.nil) | ((apply Xi.Gfs.cons); (first | (exact Xi.Gf.int) | (refine Xi.Gf.str ?_; (first | assumption | decide +kernel)) | (exact Xi.Gf.non) | (exact Xi.Gf.bl)); (fail "gf")))
local macro_rules | `(tactic| fail "gn") => `(tactic| first | (exact Xi.Gns.nil) | ((apply Xi.Gns.cons); (first | (exact Xi.Gn.fl Xi.Gf.int) | (refine Xi.Gn.fl (Xi.Gf.str ?_); (first | assumption | decide +kernel)) | (exact Xi.Gn.fl Xi.Gf.non) | (exact Xi.Gn.fl Xi.Gf.bl) | ((apply Xi.Gn.tup); (fail "at"); (fail "gf")) | ((apply Xi.Gn.lst); (fail "at"); (fail "gf"))); (fail "gn")))
local macro_rules | `(tactic| fail "seqeq") => `(tactic| first | ((with_reducible refine' gs_eqT ?hr ?ia ?ib ?f ?g ?e ?h); (case hr => exact Xi.Body.room (by assumption)); (case ia => fail "at"); (case ib => fail "at"); (case f => fail "gn"); (case g => fail "gn"); (case e => with_reducible rfl)) | ((with_reducible refine' gs_neT ?hr ?ia ?ib ?f ?g ?e ?h); (case hr => exact Xi.Body.room (by assumption)); (case ia => fail "at"); (case ib => fail "at"); (case f => fail "gn"); (case g => fail "gn"); (case e => with_reducible rfl)) | ((with_reducible refine' gs_eqL ?hr ?ia ?ib ?f ?g ?e ?h); (case hr => exact Xi.Body.room (by assumption)); (case ia => fail "at"); (case ib => fail "at"); (case f => fail "gn"); (case g => fail "gn"); (case e => with_reducible rfl)) | ((with_reducible refine' gs_neL ?hr ?ia ?ib ?f ?g ?e ?h); (case hr => exact Xi.Body.room (by assumption)); (case ia => fail "at"); (case ib => fail "at"); (case f => fail "gn"); (case g => fail "gn"); (case e => with_reducible rfl)) | ((with_reducible refine' go_eqT ?hr ?ia ?ib ?f ?g ?h); (case hr => exact Xi.Body.room (by assumption)); (case ia => fail "at"); (case ib => fail "at"); (case f => fail "gn"); (case g => fail "gn")) | ((with_reducible refine' go_neT ?hr ?ia ?ib ?f ?g ?h); (case hr => exact Xi.Body.room (by assumption)); (case ia => fail "at"); (case ib => fail "at"); (case f => fail "gn"); (case g => fail "gn")) | ((with_reducible refine' go_eqL ?hr ?ia ?ib ?f ?g ?h); (case hr => exact Xi.Body.room (by assumption)); (case ia => fail "at"); (case ib => fail "at"); (case f => fail "gn"); (case g => fail "gn")) | ((with_reducible refine' go_neL ?hr ?ia ?ib ?f ?g ?h); (case hr => exact Xi.Body.room (by assumption)); (case ia => fail "at"); (case ib => fail "at"); (case f => fail "gn"); (case g => fail "gn")))
local macro_rules | `(tactic| fail "r") => `(tactic| first
  | ((with_reducible show ro _ _ _ _ _ _ _ _); (first | (with_reducible refine ro_add ?_) | (with_reducible refine ro_sub ?_) | (with_reducible refine ro_lt ?_) | (with_reducible refine ro_le ?_) | (with_reducible refine ro_gt ?_) | (with_reducible refine ro_ge ?_) | (with_reducible refine ro_eq ?_) | (with_reducible refine ro_ne ?_) | (with_reducible refine ro_eqS ?_) | (with_reducible refine ro_eqBl ?_) | (with_reducible refine ro_notBl ?_) | (with_reducible refine ro_isBl ?_) | (with_reducible refine ro_neBl ?_) | (with_reducible refine ro_neS ?_) | (with_reducible refine ro_isN ?_) | (with_reducible refine ro_notN ?_) | (with_reducible refine ru_neg ?_) | ((with_reducible refine ro_pow3 ?_ ?_); (omega)) | (with_reducible refine ro_pow13 ?_) | (with_reducible refine ro_pow18 ?_) | (with_reducible refine ro_pow12 ?_) | (with_reducible refine ro_pow20 ?_) | (with_reducible refine ro_pow9 ?_) | (with_reducible refine ro_pow40 ?_) | (with_reducible refine ro_pow58 ?_) | (with_reducible refine ro_pow59 ?_) | (with_reducible refine ro_pow60 ?_) | (with_reducible refine ro_pow30 ?_) | (with_reducible refine ro_pow5 ?_) | (with_reducible refine ro_pow6 ?_) | (with_reducible refine ro_pow7 ?_) | (with_reducible refine ro_pow10 ?_) | (with_reducible refine ro_pow14 ?_) | (with_reducible refine ro_pow15 ?_) | (with_reducible refine ro_pow19 ?_) | (with_reducible refine ro_pow28 ?_) | (with_reducible refine ro_pow29 ?_) | (with_reducible refine ro_pow31 ?_) | (with_reducible refine ro_pow38 ?_) | (with_reducible refine ro_pow39 ?_) | (with_reducible refine ro_pow50 ?_) | (with_reducible refine ro_pow56 ?_) | (with_reducible refine ro_pow57 ?_) | (with_reducible refine ro_pow61 ?_) | (with_reducible refine ro_pow63 ?_) | (with_reducible refine ro_pow64 ?_) | ((with_reducible refine ro_mulL ?_ ?_); (omega)) | ((with_reducible refine ro_mulR ?_ ?_); (omega)) | ((with_reducible refine ro_mod ?_ ?_); (omega)) | ((with_reducible refine ro_div (n := 60) ?_ ?_ ?_ ?_); (omega); (decide); (decide)) | (((with_reducible refine' ro_sum ?bd ?O ?hj ?ia ?ib ?hC ?hD ?o1 ?o2 ?ft ?q); (case bd => (with_reducible assumption)); (case O => (with_reducible assumption)); (case hj => rfl); (case ia => fail "at"); (case ib => fail "at"); (case hC => (with_reducible assumption)); (case hD => (with_reducible assumption)); (case o1 => (with_reducible assumption)); (case o2 => (with_reducible assumption)); (case ft => (with_reducible assumption))); (intro _ _ _)) | (((with_reducible refine' ro_prod ?bd ?O ?hj ?ty ?sb ?ia ?hC ?o1 ?h1 ?h2 ?h3 ?h4 ?q); (case bd => (with_reducible assumption)); (case O => (with_reducible assumption)); (case hj => rfl); (case ty => (with_reducible assumption)); (case sb => (with_reducible assumption)); (case ia => fail "at"); (case hC => (with_reducible assumption)); (case o1 => (with_reducible assumption)); (case h1 => omega); (case h2 => omega); (case h3 => omega); (case h4 => omega)); (intro _ _ _)) | ((with_reducible refine' ro_eqLn ?bd ?O ?hj ?ia ?ib ?hC ?hD ?q); (case bd => (with_reducible assumption)); (case O => (with_reducible assumption)); (case hj => rfl); (case ia => fail "at"); (case ib => fail "at"); (case hC => (with_reducible assumption)); (case hD => (with_reducible assumption))) | ((with_reducible refine' ro_neLn ?bd ?O ?hj ?ia ?ib ?hC ?hD ?q); (case bd => (with_reducible assumption)); (case O => (with_reducible assumption)); (case hj => rfl); (case ia => fail "at"); (case ib => fail "at"); (case hC => (with_reducible assumption)); (case hD => (with_reducible assumption))) | (fail "seqeq")))
  | (with_reducible refine ru_neg ?_))
local macro_rules | `(tactic| fail "call") => `(tactic| first
  | ((with_reducible refine' Body.call ?bd ?D ?hj ?hg ?he ?hpl ?h ?hdb); (case bd => (with_reducible assumption)); (case D => (with_reducible assumption)); (case hj => rfl); (case hg => rfl); (case he => rfl); (case hpl => rfl); (case hdb => rfl))
  | ((with_reducible refine' Body.make ?bd ?D ?hj ?hg ?he ?hpl ?h ?hdb); (case bd => (with_reducible assumption)); (case D => (with_reducible assumption)); (case hj => rfl); (case hg => rfl); (case he => rfl); (case hpl => rfl); (case hdb => rfl))
  | ((with_reducible refine' Body.meth ?bd ?D ?hj ?he ?hpl ?ht ?h); (case bd => (with_reducible assumption)); (case D => (with_reducible assumption)); (case hj => rfl); (case he => rfl); (case hpl => rfl); (case ht => exact ⟨_, rfl⟩))
  | ((with_reducible refine' Body.meth0 ?bd ?D ?hj ?ht ?h); (case bd => (with_reducible assumption)); (case D => (with_reducible assumption)); (case hj => rfl); (case ht => exact ⟨_, rfl⟩))
  | ((with_reducible refine' Body.methK ?bd ?D ?hj ?hall ?hks ?hpl ?ht ?h); (case bd => (with_reducible assumption)); (case D => (with_reducible assumption)); (case hj => rfl); (case hall => rfl); (case hks => rfl); (case hpl => rfl); (case ht => exact ⟨_, rfl⟩))
  | ((with_reducible refine' Body.callK1 ?bd ?D ?hj ?hg ?hall ?hks ?hpl ?h ?hdb); (case bd => (with_reducible assumption)); (case D => (with_reducible assumption)); (case hj => rfl); (case hg => rfl); (case hall => rfl); (case hks => rfl); (case hpl => rfl); (case hdb => rfl))
  | ((with_reducible refine' Body.callK2 ?bd ?D ?hj ?hg ?hall ?hks ?hpl ?h ?hdb); (case bd => (with_reducible assumption)); (case D => (with_reducible assumption)); (case hj => rfl); (case hg => rfl); (case hall => rfl); (case hks => rfl); (case hpl => rfl); (case hdb => rfl))
  | ((with_reducible refine' Body.callK3 ?bd ?D ?hj ?hg ?hall ?hks ?hpl ?h ?hdb); (case bd => (with_reducible assumption)); (case D => (with_reducible assumption)); (case hj => rfl); (case hg => rfl); (case hall => rfl); (case hks => rfl); (case hpl => rfl); (case hdb => rfl))
  | ((with_reducible refine' Body.callKc ?bd ?D ?hj ?hg ?hall ?hks ?hpl ?h ?hdb); (case bd => (with_reducible assumption)); (case D => (with_reducible assumption)); (case hj => rfl); (case hg => rfl); (case hall => rfl); (case hks => rfl); (case hpl => rfl); (case hdb => rfl))
  | ((with_reducible refine' Body.callK ?bd ?D ?hj ?hall ?hks ?hpl ?ht ?h); (case bd => (with_reducible assumption)); (case D => (with_reducible assumption)); (case hj => rfl); (case hall => rfl); (case hks => rfl); (case hpl => rfl); (case ht => rfl))
  | ((with_reducible refine cb_isinstance ?_ ?_ ?_ ?_ ?_); (exact Xi.Body.gl (by assumption) rfl); (exact Xi.Body.no (by assumption) ((show Blt _ by assumption) _ (by fail "mem"))); (rfl); (rfl))
  | ((with_reducible refine cb_len ?_ ?_ ?_ ?_ ?_); (exact Xi.Body.gl (by assumption) rfl); (exact Xi.Body.no (by assumption) ((show Blt _ by assumption) _ (by fail "mem"))); (rfl); (rfl))
  | ((with_reducible refine cb_max ?_ ?_ ?_ ?_ ?_); (exact Xi.Body.gl (by assumption) rfl); (exact Xi.Body.no (by assumption) ((show Blt _ by assumption) _ (by fail "mem"))); (rfl); (rfl))
  | ((with_reducible refine cb_min ?_ ?_ ?_ ?_ ?_); (exact Xi.Body.gl (by assumption) rfl); (exact Xi.Body.no (by assumption) ((show Blt _ by assumption) _ (by fail "mem"))); (rfl); (rfl))
  | ((with_reducible refine cb_abs ?_ ?_ ?_ ?_ ?_); (exact Xi.Body.gl (by assumption) rfl); (exact Xi.Body.no (by assumption) ((show Blt _ by assumption) _ (by fail "mem"))); (rfl); (rfl))
  | ((with_reducible refine cb_repr ?_ ?_ ?_ ?_ ?_); (exact Xi.Body.gl (by assumption) rfl); (exact Xi.Body.no (by assumption) ((show Blt _ by assumption) _ (by fail "mem"))); (rfl); (rfl))
  | ((with_reducible refine cb_sum ?_ ?_ ?_ ?_ ?_); (exact Xi.Body.gl (by assumption) rfl); (exact Xi.Body.no (by assumption) ((show Blt _ by assumption) _ (by fail "mem"))); (rfl); (rfl))
  | ((with_reducible refine cb_all ?_ ?_ ?_ ?_ ?_); (exact Xi.Body.gl (by assumption) rfl); (exact Xi.Body.no (by assumption) ((show Blt _ by assumption) _ (by fail "mem"))); (rfl); (rfl))
  | ((with_reducible refine cb_any ?_ ?_ ?_ ?_ ?_); (exact Xi.Body.gl (by assumption) rfl); (exact Xi.Body.no (by assumption) ((show Blt _ by assumption) _ (by fail "mem"))); (rfl); (rfl))
  | ((with_reducible refine cb_sorted ?_ ?_ ?_ ?_ ?_); (exact Xi.Body.gl (by assumption) rfl); (exact Xi.Body.no (by assumption) ((show Blt _ by assumption) _ (by fail "mem"))); (rfl); (rfl))
  | ((with_reducible refine cb_int ?_ ?_ ?_ ?_ ?_); (exact Xi.Body.gl (by assumption) rfl); (exact Xi.Body.no (by assumption) ((show Blt _ by assumption) _ (by fail "mem"))); (rfl); (rfl))
  | ((with_reducible refine cb_bool ?_ ?_ ?_ ?_ ?_); (exact Xi.Body.gl (by assumption) rfl); (exact Xi.Body.no (by assumption) ((show Blt _ by assumption) _ (by fail "mem"))); (rfl); (rfl))
  | ((with_reducible refine cb_str ?_ ?_ ?_ ?_ ?_); (exact Xi.Body.gl (by assumption) rfl); (exact Xi.Body.no (by assumption) ((show Blt _ by assumption) _ (by fail "mem"))); (rfl); (rfl))
  | ((with_reducible refine cb_list ?_ ?_ ?_ ?_ ?_); (exact Xi.Body.gl (by assumption) rfl); (exact Xi.Body.no (by assumption) ((show Blt _ by assumption) _ (by fail "mem"))); (rfl); (rfl))
  | ((with_reducible refine cb_tuple ?_ ?_ ?_ ?_ ?_); (exact Xi.Body.gl (by assumption) rfl); (exact Xi.Body.no (by assumption) ((show Blt _ by assumption) _ (by fail "mem"))); (rfl); (rfl))
  | ((with_reducible refine' Body.cmeth ?bd ?D ?hj ?he ?hpl ?ht ?h); (case bd => (with_reducible assumption)); (case D => (with_reducible assumption)); (case hj => rfl); (case he => rfl); (case hpl => rfl); (case ht => exact ⟨_, rfl⟩))
  | ((with_reducible refine' Body.makeS ?bd ?D ?hj ?hst ?h); (case bd => (with_reducible assumption)); (case D => (with_reducible assumption)); (case hj => rfl); (case hst => rfl))
  | ((with_reducible refine' Body.callO ?bd ?D ?hj ?ht ?he ?hpl ?h); (case bd => (with_reducible assumption)); (case D => (with_reducible assumption)); (case hj => rfl); (case ht => rfl); (case he => rfl); (case hpl => rfl)))
local macro_rules | `(tactic| fail "ke") => `(tactic| first
  | (((with_reducible refine' ke_n ?n ?m ?l); (case n => (with_reducible assumption)); (case m => fail "mem")); (fail "lk"))
  | ((with_reducible refine' Body.gref ?bd ?hm ?hg ?hd ?h); (case bd => (with_reducible assumption)); (case hm => (with_reducible assumption)); (case hg => rfl); (case hd => rfl))
  | (with_reducible refine ke_int ?_)
  | (with_reducible refine ke_op ?_)
  | (with_reducible refine ke_sl2 ?_)
  | ((with_reducible refine ke_ix ?_ ?_); (exact fun _ _ => rfl))
  | (with_reducible refine ke_str ?_)
  | (with_reducible refine ke_bl ?_)
  | (with_reducible refine ke_non ?_)
  | ((with_reducible refine ke_cmp ?_ ?_); (first | exact nomark _ | rfl))
  | ((with_reducible refine ke_chain ?_ ?_); (with_unfolding_all rfl))
  | (with_reducible refine ke_one ?_)
  | (with_reducible refine ke_and ?_)
  | (with_reducible refine ke_or ?_)
  | (with_reducible refine ke_not ?_)
  | (with_reducible refine ke_un ?_)
  | (with_reducible refine ke_if ?_)
  | (with_reducible refine ke_lst ?_)
  | (with_reducible refine ke_tup ?_)
  | (with_reducible refine ke_sl ?_)
  | ((with_reducible refine' Body.prop ?bd ?D ?hj ?hab ?h); (case bd => (with_reducible assumption)); (case D => (with_reducible assumption)); (case hj => rfl); (case hab => rfl))
  | ((with_reducible refine ke_kind ?_ ?_); (rfl))
  | ((with_reducible refine ke_fld ?_ ?_); (rfl))
  | ((with_reducible refine ke_app ?_ ?_ ?_ ?_ ?_ ?_); (rfl); (rfl); (rfl); (rfl); (rfl))
  | ((with_reducible refine ke_idx ?_ ?_ ?_ ?_ ?_ ?_); (rfl); (rfl); (rfl); (rfl); (rfl))
  | (fail "call"))
local macro_rules | `(tactic| fail "k") => `(tactic| first
  | (with_reducible refine ko_some ?_)
  | (with_reducible refine ko_none ?_)
  | ((with_reducible refine ka_cons ?_ ?_); (rfl))
  | (with_reducible refine ka_nil ?_)
  | (with_reducible refine kk_nil ?_)
  | (with_reducible refine kk_cons ?_)
  | (fail "r")
  | (fail "ix")
  | (with_reducible refine kt_not ?_)
  | (with_reducible refine kt_w (kw_and ?_))
  | (with_reducible refine kt_w (kw_or ?_))
  | (with_reducible refine kw_and ?_)
  | (with_reducible refine kw_or ?_)
  | (with_reducible refine kw_and1 ?_)
  | (with_reducible refine kw_or1 ?_)
  | ((with_reducible refine kt_cmp ?_ ?_); (first | exact nomark _ | rfl))
  | ((with_reducible refine kt_chain3 ?_ ?_); (with_unfolding_all rfl))
  | ((with_reducible refine kt_chain ?_ ?_); (with_unfolding_all rfl))
  | ((with_reducible refine kt_val ?_ ?_); (intro _; rfl))
  | ((with_reducible show _ ∧ New _ _ _ _); (refine ⟨sz1000 rfl, ?_⟩); intro p np)
  | ((with_reducible show Pq _ _ _ _ _); (fail "pt")))
local macro_rules | `(tactic| fail "ex") => `(tactic| first
  | ((with_reducible show ∃ _, _); (first | ((with_reducible apply app_1); (fail "at")) | ((with_reducible apply sl_1); (fail "at"); (intro _ _)) | ((with_reducible apply sl2_3); (fail "at"); (intro _ _)) | ((with_reducible apply recv); (fail "at"); (with_reducible assumption); (decide +kernel); (decide +kernel); (decide +kernel)) | ((with_reducible apply fld_kind); (fail "at"); (with_reducible assumption); (with_reducible assumption)) | ((with_reducible apply fld_every); (fail "at"); (with_reducible assumption)) | ((with_reducible apply fld_at); (fail "at"); (with_reducible assumption)) | ((with_reducible apply fld_ride); (fail "at"); (with_reducible assumption)) | ((with_reducible apply rrecv); (fail "at"); (decide +kernel)) | ((with_reducible apply fld_legs); (fail "at"); (with_reducible assumption)) | ((with_reducible apply set_legs); (fail "spot"); (fail "mark"); (with_reducible assumption)) | ((with_reducible apply rrecvP); (fail "at")) | ((with_reducible apply set_every); (fail "spot"); (fail "mark"); (with_reducible assumption)) | ((with_reducible apply set_at); (fail "spot"); (fail "mark"); (with_reducible assumption)) | ((with_reducible apply set_ride); (fail "spot"); (fail "mark"); (with_reducible assumption)) | ((with_reducible apply recvP); (fail "at"); (with_reducible assumption)) | ((with_reducible refine sub_k ?_ ?_); (fail "mine"); (fail "sq"); (first | (refine ⟨_, rfl, 0, rfl, ?_⟩) | (refine ⟨_, rfl, 1, rfl, ?_⟩) | (refine ⟨_, rfl, 2, rfl, ?_⟩) | (refine ⟨_, rfl, 3, rfl, ?_⟩)); (dsimp only [List.set_cons_zero, List.set_cons_succ])) | (with_reducible refine ⟨_, rfl, ?_⟩) | (with_reducible refine ⟨_, _, rfl, ?_⟩) | (with_reducible refine ⟨_, _, _, rfl, ?_⟩)))
  | (with_reducible refine ⟨rfl, ?_⟩)
  | ((with_reducible refine ⟨?_, ?_⟩); (first | ((with_reducible apply recvO); (fail "at"); (with_reducible assumption)) | ((with_reducible apply rrecvO); (fail "at")))))
local macro_rules | `(tactic| fail "mark") => `(tactic| first
  | (exact .inl (by assumption))
  | (exact .inr rfl)
  | (exact .inr (by assumption)))
local macro_rules | `(tactic| fail "st") => `(tactic| first | ((with_reducible refine' ks_n ?n ?m ?mN ?hs ?h); (case n => (with_reducible assumption)); (case m => fail "mem"); (case mN => fail "mem"); (case hs => rfl)) | (with_reducible refine ks_if ?_) | (with_reducible refine ks_ret ?_) | (with_reducible refine ks_retN ?_) | ((with_reducible refine ks_expr ?_ ?_); (rfl)) | ((with_reducible refine ks_fld ?_ ?_); (rfl)) | ((with_reducible refine' Body.par ?bd ?n ?mx ?my ?hxy ?hx ?hy ?hw ?hs ?h); (case bd => (with_reducible assumption)); (case n => (with_reducible assumption)); (case mx => fail "mem"); (case my => fail "mem"); (case hxy => rfl); (case hx => rfl); (case hy => rfl); (case hw => (intro env he; cases env; cases he; rfl)); (case hs => rfl)) | ((with_reducible refine ks_asg ?_ ?_ ?_ ?_); (rfl); (rfl); (rfl)))
local macro_rules | `(tactic| fail "s") => `(tactic| first
  | ((with_reducible refine kb_seq ?_); (fail "st"))
  | ((with_reducible show ks _ _ _ _ _ _ _ _ _ _); (fail "st"))
  | ((with_reducible show kg _ _ _ _ _ _ _ _); ((with_reducible refine' kg_tup ?hc ?hn ?hst ?ia ?hl ?h); (case hc => exact Xi.Body.calm (by assumption)); (case hn => rfl); (case hst => rfl); (case ia => fail "at"); (case hl => rfl)))
  | ((with_reducible show kg _ _ _ _ _ _ _ _); ((with_reducible refine' kg_unl ?hc ?hn ?hst ?ia ?hl ?h); (case hc => exact Xi.Body.calm (by assumption)); (case hn => rfl); (case hst => rfl); (case ia => fail "at"); (case hl => rfl)))
  | ((with_reducible show kgs _ _ _ _ _ _ _ _); (with_reducible refine kgs_cons ?_ ?_); (rfl))
  | ((with_reducible show kgs _ _ _ _ _ _ _ _); (with_reducible refine kgs_nil ?_))
  | ((with_reducible show kg _ _ _ _ _ _ _ _); (with_reducible refine kg_sub ?_ ?_); (intro _; rfl))
  | ((with_reducible show kg _ _ _ _ _ _ _ _); ((with_reducible refine' kg_n ?n ?m ?h); (case n => (with_reducible assumption)); (case m => fail "mem")); (fail "pt")))
local macro_rules | `(tactic| fail "rs") => `(tactic| first
  | ((with_reducible show ∀ _ _, _ → _ → rs _ _ _ _ _ _ _); (intro _ _ _ _))
  | ((with_reducible show rs _ _ _ _ _ _ _); (first | (with_reducible refine rs_isInt ?_) | ((with_reducible apply rs_waited); (fail "at"); (omega)) | ((with_reducible apply rs_arrival); (fail "at"); (omega)) | ((with_reducible apply rs_triple); (fail "at"); (with_reducible assumption); (intro _ _)) | ((with_reducible apply rs_later); (fail "at"); (fail "at"); (with_reducible assumption); (with_reducible assumption); (with_reducible assumption); (with_reducible assumption); (with_reducible assumption)) | ((with_reducible apply rs_back); (fail "at"); (with_reducible assumption); (with_reducible assumption); (intro _ _ _)) | ((with_reducible apply rs_init); (fail "spot"); (fail "mark"); (with_reducible assumption); (omega); (omega); (omega)) | ((with_reducible apply rs_walk); (fail "spot"); (fail "mark"); (omega)) | ((with_reducible apply rs_stop); (fail "spot"); (fail "mark"); (omega); (omega)) | ((with_reducible apply rs_chain); (fail "spot"); (fail "mark"); (omega); (intro _ _ _ _ _ _ _ _ _)) | ((with_reducible apply rs_numbers); (fail "spot"); (fail "at"); (fail "two"); (fail "mark"); (omega); (with_reducible assumption); (with_reducible assumption); (intro _ _ _ _ _ _ _ _ _ _ _ _)) | ((with_reducible apply rs_made); (fail "at"); (with_reducible assumption); (intro _ _ _)) | ((with_reducible apply rs_madeK); (fail "at"); (with_reducible assumption); (intro _ _ _)) | ((with_reducible apply rs_right); (fail "spot"); (fail "at"); (fail "two"); (fail "mark"); (omega); (with_reducible assumption); (intro _ _ _ _)) | ((with_reducible apply rs_moments); (fail "spot"); (fail "at"); (fail "two"); (fail "mark"); (omega); (with_reducible assumption); (intro _ _ _ _ _ _ _ _ _)) | ((with_reducible apply rs_moment); (fail "spot"); (fail "mark"); (omega); (intro _ _ _ _ _ _ _)) | ((with_reducible apply rs_legs); (fail "rtl"); (intro _ _)) | ((with_reducible apply rs_rlen); (fail "rtl")) | ((with_reducible apply rs_rcall); (fail "rtl")) | ((with_reducible apply rs_rline); (fail "rtl"); (intro _ _ _)) | ((with_reducible apply rs_rback); (fail "rtl"); (intro _ _ _ _ _ _ _)) | ((with_reducible apply rs_line); (fail "at"); (with_reducible assumption); (omega)) | ((with_reducible apply rs_prop); (fail "at"); (with_reducible assumption)) | ((with_reducible apply rs_pick); (fail "spot"); (fail "mark"); (omega); (omega); (omega); (intro _ _ _ _ _ _ _)))))
local macro_rules | `(tactic| fail "rc") => `(tactic| first
  | ((with_reducible show rc _ _ _ _ _ _ _); (first | ((with_reducible refine' rc_reprL ?hr ?gd ?ia ?f ?hn ?h); (case hr => exact Xi.Body.room (by assumption)); (case gd => exact Xi.Body.gd (by assumption)); (case ia => fail "at"); (case f => fail "fl"); (case hn => exact rfl)) | ((with_reducible refine' rc_reprT ?hr ?gd ?ia ?f ?hn ?h); (case hr => exact Xi.Body.room (by assumption)); (case gd => exact Xi.Body.gd (by assumption)); (case ia => fail "at"); (case f => fail "fl"); (case hn => exact rfl)) | ((with_reducible refine' rc_lenL ?ia ?h); (case ia => fail "at")) | ((with_reducible refine' rc_lenT ?ia ?h); (case ia => fail "at")) | (((with_reducible refine' rc_tuple ?ia ?h); (case ia => fail "at")); (intro _ _)) | (with_reducible refine rc_abs ?_) | ((with_reducible refine rc_max2 ?_ ?_); (exact Xi.Body.calm (by assumption))) | ((with_reducible refine rc_min2 ?_ ?_); (exact Xi.Body.calm (by assumption))) | (with_reducible refine rc_intI ?_) | (with_reducible refine rc_intB ?_))))
local macro_rules | `(tactic| fail "p") => `(tactic| first
  | ((with_reducible show PickB _ _ _); (first | (with_reducible refine pickB_T ?_) | (with_reducible refine pickB_F ?_) | (with_reducible refine pickB_nT ?_) | (with_reducible refine pickB_nF ?_) | ((with_reducible apply pickB_eY); (exact rfl)) | ((with_reducible apply pickB_dY); (exact rfl)) | ((with_reducible apply pickB_dY); (omega)) | ((with_reducible apply pickB_dN); (omega)) | ((with_reducible apply pickB_eY); (omega)) | ((with_reducible apply pickB_eN); (omega)) | ((with_reducible apply pickB_dY); (decide +kernel)) | ((with_reducible apply pickB_dN); (decide +kernel)) | ((with_reducible apply pickB_eY); (decide +kernel)) | ((with_reducible apply pickB_eN); (decide +kernel)) | ((with_reducible apply pickB_N); (decide +kernel)) | ((with_reducible apply pickB_Y); (decide +kernel))))
  | ((with_reducible show Pick _ _ _); (first | (with_reducible refine pick_T ?_) | (with_reducible refine pick_F ?_) | (with_reducible refine pick_nT ?_) | (with_reducible refine pick_nF ?_) | ((with_reducible apply pick_dY); (omega)) | ((with_reducible apply pick_dN); (omega)) | ((with_reducible apply pick_eY); (omega)) | ((with_reducible apply pick_eN); (omega)))))
local macro_rules | `(tactic| fail "1") => `(tactic| first | ((with_reducible show ke _ _ _ _ _ _ _); (fail "ke")) | fail "k" | fail "s" | fail "ex" | fail "rs" | fail "rc" | fail "p")
local macro_rules | `(tactic| fail "x") => `(tactic| repeat fail "1")
local macro_rules | `(tactic| fail "y") => `(tactic| repeat first | fail "1" | (with_reducible refine kb_nil' ?_))
local macro_rules | `(tactic| fail "all") => `(tactic| first | (exact List.forall_mem_nil _) | ((refine List.forall_mem_cons.2 ⟨?_, ?_⟩); ((try dsimp only); omega); fail "all"))
local macro_rules | `(tactic| fail "ixI") => `(tactic| ((fail "aq"); (first | (refine ⟨[_], rfl, ?_, ?_, ?_, ?_⟩) | (refine ⟨[_, _], rfl, ?_, ?_, ?_, ?_⟩) | (refine ⟨[_, _, _], rfl, ?_, ?_, ?_, ?_⟩) | (refine ⟨[_, _, _, _], rfl, ?_, ?_, ?_, ?_⟩) | (refine ⟨[_, _, _, _, _], rfl, ?_, ?_, ?_, ?_⟩) | (refine ⟨[_, _, _, _, _, _], rfl, ?_, ?_, ?_, ?_⟩)); (omega); (simp only [List.length_cons, List.length_nil]; omega); (fail "all"); (try dsimp only); intro _ _))
local macro_rules | `(tactic| fail "two") => `(tactic| first | ((with_reducible apply Xi.Two.l); (fail "at")) | ((with_reducible apply Xi.Two.r); (fail "at")) | ((with_reducible apply Xi.Two.t); (fail "two")))
local macro_rules | `(tactic| fail "fl") => `(tactic| first | (exact Xi.Fls.nil) | ((apply Xi.Fls.cons); (first | (refine Xi.Fl.int (log_of ?_); omega) | (refine Xi.Fl.str ?_; (first | assumption | decide +kernel)) | (exact Xi.Fl.non) | (exact Xi.Fl.bl)); (fail "fl")))
local macro_rules | `(tactic| fail "fn") => `(tactic| first | (exact Xi.Fns.nil) | ((apply Xi.Fns.cons); (first | (refine Xi.Fn.fl (Xi.Fl.int (log_of ?_)); omega) | (refine Xi.Fn.fl (Xi.Fl.str ?_); (first | assumption | decide +kernel)) | (exact Xi.Fn.fl Xi.Fl.non) | (exact Xi.Fn.fl Xi.Fl.bl) | ((apply Xi.Fn.tup); (fail "at"); (fail "fl"); (exact rfl)) | ((apply Xi.Fn.lst); (fail "at"); (fail "fl"); (exact rfl))); (fail "fn")))

local macro_rules | `(tactic| fail "nx") => `(tactic| ((with_reducible apply rs_tug); (fail "spot"); (fail "mark"); (omega); (omega); (omega); (omega); (omega); (omega); (omega); (intro _ _ _ _ _ _ _ _)))
local macro_rules | `(tactic| fail "x") => `(tactic| repeat first | fail "1" | fail "nx")
section
variable {P : Program} {w : World} {K : PySem.W.Frag} {mg : Str → Option Value} {base : Heap} {c : Cp}
theorem ok_urn (T : Tx P K mg c) : DefT P w K mg base CX0 1 "_law_urn" (spUrn K) :=
  T.urn.ok bi_urn fun f fd F => fk_body F sc_urn lo_urn pl_urn (by (conv => lhs; whnf)) (fun vs H Q E h => by obtain ⟨s, ns, k, rfl, _⟩ := h; rfl) (fun X bd ns H vs Q E h => by
    obtain ⟨s, ns, k, rfl, sq, hk, hk1, r⟩ := h
    have nm := bd.nm
    have hB := T.blt
    rw [← bd.K] at sq
    with_reducible refine wb_go (M := fun _ => False) (L := []) (σ := [some (.ref s), some (.int k), none]) ?e .s0 ?_
    (case e => rfl)
    fail "y"
    refine rc_lenR sq id ?_
    fail "y"
    refine pickB_dec (fun h => ?_) (fun h => ?_)
    · fail "y"
      refine ix_scrI sq id hk (by simpa using h) (fun x => ?_)
      fail "y"
      exact fun H' z => (r _ _ _ (by assumption) (by split <;> omega) (by omega) (by omega)).e1 (by assumption) z .here
    · fail "y"
      exact fun H' z => (r _ _ _ (by assumption) (by split <;> omega) (by omega) (by omega)).e1 (by assumption) z .here)
theorem ok_tug (T : Tx P K mg c) : DefT P w K mg base CX0 1 "_law_tug" spTug :=
  T.tug.ok bi_tug fun f fd F => fk_body F sc_tug lo_tug pl_tug (by (conv => lhs; whnf)) (fun vs H Q E h => by obtain ⟨f, a, b, c, n, rfl, _⟩ := h; rfl) (fun X bd ns H vs Q E h => by
    obtain ⟨f, a, b, c, n, rfl, hf, ha, hb, hb1, hc, hc1, hn, hn1, k⟩ := h
    have nm := bd.nm
    have hB := T.blt
    have hbn := huge_bits hn hn1
    with_reducible refine wb_go (M := fun x => x = f) (L := [(f, feedO a b c)]) (σ := [some (.ref f), some (.int n), none, none]) ?e (.m1 hf) ?_
    (case e => rfl)
    fail "x"
    refine pickB_dec (fun h0 => ?_) (fun h0 => ?_)
    · fail "x"
      refine ro_div hn hbn (by decide) ?_
      fail "x"
      exact fun H' z => (k _ _ _ (Int.emod_nonneg _ (by omega)) (Int.emod_lt_of_pos _ hn) (Int.ediv_nonneg ha (by omega)) (Int.le_refl _) (by omega)).e0 z .here
    · fail "y"
      refine ro_powW3 (n := 200) (bits (10 ^ 50) (by decide +kernel) (by omega)) (by decide) ?_
      fail "x"
      generalize (b + 67867979 * (c + 1)) * (b + 67867979 * (c + 1)) * (b + 67867979 * (c + 1)) = y
      refine ro_powW5 (n := 250) (bits (10 ^ 70) (by decide +kernel) (by omega)) (by decide) ?_
      generalize (y % 10000000000000000000000000000000000000000000000000000000000000057 + 15485867 * (c + 1)) ^ 5 = u
      fail "x"
      exact fun H' z => (k _ _ _ (Int.emod_nonneg _ (by omega)) (Int.emod_lt_of_pos _ hn) ha (by omega) (by omega)).e0 z .here)
theorem ok_chainU (T : Tx P K mg c) : DefT P w K mg base CX0 2 "_law_chain" spChainU :=
  T.chain.ok bi_chain fun f fd F => fk_body F sc_chain lo_chain pl_chain (by (conv => lhs; whnf)) (fun vs H Q E h => by obtain ⟨f, a, b, c, rfl, _⟩ := h; rfl) (fun X bd ns H vs Q E h => by
    obtain ⟨f, a, b, c, rfl, hf, ha, hb, hb1, hc, hc1, k⟩ := h
    have nm := bd.nm
    have hB := T.blt
    have d1 := ok_tug (P := P) (w := w) (base := base) T
    with_reducible refine wb_go (M := fun x => x = f) (L := [(f, feedO a b c)]) (σ := [some (.ref f), none, none]) ?e (.m1 hf) ?_
    (case e => rfl)
    fail "x"
    refine ix_I (fun x => 1 ≤ x ∧ x ≤ 100000000000000000000) ?_
    fail "ixI"
    rename_i x0 h0
    fail "x"
    rename_i r1 a1 c1 hr1 hr2 ha1 hc2 hc3 q nq
    refine kb_sub (L' := [(q, .lst [.int (1 + r1)]), (f, feedO a1 b c1)]) (by fail "sub") ?_
    refine kb_seq (ks_for bd.own bd.calm (by intro _; rfl) ?_)
    refine ki_range1 (bd.gl rfl) (bd.no (hB _ (by fail "mem"))) rfl ?_
    fail "x"
    rename_i n a2 c2 hn1 hn2 ha2 hc4 hc5
    refine ⟨by omega, by omega, fun J wk => ⟨_, _, _, fun i σ L => ∃ (a' c' : Int) (xs : List Int) (x : Int) (t : Option V), L = [(q, .lst ((xs ++ [x]).map V.int)), (f, feedO a' b c')] ∧ 0 ≤ a' ∧ c ≤ c' ∧ c' ≤ c + 10 + 2 * (i : Int) ∧ ChainOk topU (xs ++ [x]) ∧ x ≤ 100000000000000000000 * 10000000000 ^ i ∧ xs.length = i ∧ σ = [some (.ref f), some (.ref q), t], wk, ?_, fun _ _ _ _ _ => trivial, ?_, ?_⟩⟩
    · exact ⟨_, _, [], 1 + r1, none, rfl, ha2, by omega, by omega, .one (by omega) (by show 1 + r1 ≤ topU; unfold topU; omega), by rw [Int.pow_zero]; omega, rfl, rfl⟩
    · rintro i x σ L L' hi ⟨a', c', xs, y, t, rfl, ha', hc6, hc7, ok, hy2, hl, rfl⟩ ⟨rfl, rfl⟩
      have hy := ok.rng y (by simp)
      have hy3 : y ≤ 100000000000000000000000000000000000000000000000000 := hy.2
      have hi3 : i < 3 := by omega
      fail "x"
      refine ix_last ?_
      fail "aq"
      refine ⟨_, _, congrArg HO.lst (map_snoc _ _), ?_⟩
      fail "x"
      refine ix_I (fun x => 1 ≤ x ∧ x ≤ 10000000000) ?_
      fail "ixI"
      rename_i m0 hm0
      fail "x"
      rename_i r2 a4 c4 hr3 hr4 ha4 hc8 hc9
      refine ⟨_, _, by fail "spot", .inl nq, by rw [List.length_map, List.length_append, hl]; exact Nat.lt_of_le_of_lt (show i + 1 ≤ 10 by omega) (szl1000 rfl), ?_⟩
      have hm : y * (1 + r2) ≤ 100000000000000000000 * 10000000000 ^ (i + 1) := by
        rw [Int.pow_succ, ← Int.mul_assoc]
        exact Int.mul_le_mul hy2 (by omega) (by omega) (Int.le_trans (by omega) hy2)
      have ht := Int.le_trans hm (topB (i := i + 1) (by omega))
      rw [show List.map V.int (xs ++ [y]) ++ [V.int (y * (1 + r2))] = List.map V.int ((xs ++ [y]) ++ [y * (1 + r2)]) by rw [List.map_append (l₁ := xs ++ [y])]; rfl]
      exact kb_nil (by fail "sub") ⟨_, _, xs ++ [y], y * (1 + r2), _, rfl, ha4, by omega, by omega, ok.more (by omega) ht, hm, by rw [List.length_append, hl]; rfl, rfl⟩
    · rintro σ L ⟨a', c', xs, y, t, rfl, ha', hc6, hc7, ok, hy2, hl, rfl⟩
      fail "x"
      exact fun H' z => (k _ _ _ _ nq ha' hc6 (by omega) ok (by rw [List.length_append, hl]; show n.toNat + 1 ≤ 4; omega)).e1 nq z (.there .here) .here)
end

theorem Pv.kitI {K : PySem.W.Frag} {H : Hp} {x : V} {t : String} (h : Pv H x t) : ∃ b, PySem.W.kitOne K (.type t) (.type "int") = some b ∧ (b = false → decide (t = "int") = false) ∧ (b = true → PySem.W.kitOne K (.type t) (.type "bool") = some (!decide (t = "int"))) := by
  cases h
  · exact ⟨false, kit_ty (by decide +kernel), fun _ => rfl, nofun⟩
  · exact ⟨true, kit_ty (by decide +kernel), nofun, fun _ => kit_ty (by decide +kernel)⟩
  · exact ⟨true, kit_ty (by decide +kernel), nofun, fun _ => kit_ty (by decide +kernel)⟩
  · exact ⟨false, kit_ty (by decide +kernel), fun _ => rfl, nofun⟩
  · exact ⟨false, kit_ty (by decide +kernel), fun _ => rfl, nofun⟩
  · exact ⟨false, kit_ty (by decide +kernel), fun _ => rfl, nofun⟩
  · exact ⟨false, kit_ty (by decide +kernel), fun _ => rfl, nofun⟩
section
variable {P : Program} {w : World} {K : PySem.W.Frag} {mg : Str → Option Value} {base : Heap} {c : Cp}
theorem ok_is_integer (T : Tx P K mg c) : DefT P w K mg base CX0 1 "is_integer" spIsInt :=
  T.is_integer.ok bi_is_integer fun f fd F => fk_body F sc_is_integer lo_is_integer pl_is_integer (by (conv => lhs; whnf)) (fun vs H Q E h => by obtain ⟨i, rfl, _⟩ := h; rfl) (fun X bd ns H vs Q E h => by
    obtain ⟨i, rfl, k⟩ := h
    have nm := bd.nm
    with_reducible refine wb_go (M := fun _ => False) (L := []) (σ := [some (.int i)]) ?e .s0 ?_
    (case e => rfl)
    have hB := T.blt
    fail "x"
    refine ke_c (pe_bltn (v := .ty "int") (bd.gl rfl) (bd.no (hB _ (by fail "mem"))) bo_int rfl) ?_
    fail "x"
    refine rc_isi (.ty "int") (fun _ _ => .base (.int _)) (kit_ty (b := "int") (r := true) (by decide +kernel)) ?_
    refine pick_T ?_
    fail "x"
    refine ke_c (pe_bltn (v := .ty "bool") (bd.gl rfl) (bd.no (hB _ (by fail "mem"))) bo_bool rfl) ?_
    fail "x"
    refine rc_isi (.ty "bool") (fun _ _ => .base (.int _)) (kit_ty (b := "bool") (r := false) (by decide +kernel)) ?_
    fail "x"
    exact fun H' z => k.e0 z)
theorem ok_all_fit (T : Tx P K mg c) : DefT P w K mg base CX0 1 "all_fit" spAllFit :=
  T.all_fit.ok bi_all_fit fun f fd F => fk_body F sc_all_fit lo_all_fit pl_all_fit (by (conv => lhs; whnf)) (fun vs H Q E h => by obtain ⟨q, is, rfl, _⟩ := h; rfl) (fun X bd ns H vs Q E h => by
    obtain ⟨q, is, rfl, hq, h1, h2, k⟩ := h
    have nm := bd.nm
    have hB := T.blt
    with_reducible refine wb_go (M := fun _ => False) (L := [(q, .lst (is.map V.int))]) (σ := [some (.ref q), none, none, none]) ?e (.s1 hq) ?_
    (case e => rfl)
    fail "x"
    refine rc_sortI (by fail "at") (fun os p hp hs np => ?_)
    fail "x"
    refine Body.lc bd ns [("small", 2), ("great", 3)] ["small", "great"] ["small", "great"] ⟨rfl, by decide +kernel, by decide +kernel, by decide +kernel, by decide +kernel⟩ (by decide +kernel) (by decide +kernel) (by decide +kernel) (by intro _; rfl) ?_
    refine ki_zip (bd.gl rfl) (bd.no (hB _ (by fail "mem"))) rfl rfl rfl ?_
    fail "x"
    refine ⟨_, _, rfl, .inl (by fail "at"), fun w nw => ?_⟩
    rw [cut_tail]
    refine ⟨_, _, _, _, rfl, rfl, by fail "at", by fail "at", fun J wk D nD => ⟨_, _, _, fun i L => L = [(D, .lst (((List.zipWith (fun s g : Int => decide (g % s = 0)) os os.tail).take i).map V.bl)), (w, .lst (os.map V.int).tail), (p, .lst (os.map V.int)), (q, .lst (is.map V.int))], wk, rfl, ?_, ?_, ?_⟩⟩
    · rintro i L hi rfl
      exact ⟨by fail "at", by fail "at"⟩
    · rintro i x L L' hi rfl ⟨t, u, y, rfl, nt, hu, hy, rfl⟩ B bB nB
      rw [← List.map_tail] at hy
      rw [List.getElem?_map] at hu hy
      obtain ⟨s, hs', rfl⟩ := Option.map_eq_some_iff.mp hu
      obtain ⟨g, hg', rfl⟩ := Option.map_eq_some_iff.mp hy
      have s1 : 1 ≤ s := h1 s (hp.mem_iff.mp (List.mem_of_getElem? hs'))
      have zz : (List.zipWith (fun s g : Int => decide (g % s = 0)) os os.tail)[i]? = some (decide (g % s = 0)) := by rw [List.getElem?_zipWith, hs', hg']
      rw [show wipe [some (V.ref q), some (V.ref p), none, none] _ = [some (V.ref q), some (V.ref p), none, none] from rfl]
      fail "x"
      intro B2 bB2
      refine kf_nil ?_
      rw [if_pos rfl]
      intro B3 bB3
      have nm3 := bB3.nm
      fail "x"
      refine ⟨_, _, by fail "spot", ?_, _, .cons _ (.refl _), ?_⟩
      · rw [List.length_map, List.length_take]
        have h3 := hp.length_eq
        have h4 : min i (List.zipWith (fun s g : Int => decide (g % s = 0)) os os.tail).length ≤ 1000 := Nat.le_trans (Nat.min_le_right _ _) (by rw [List.length_zipWith]; exact Nat.le_trans (Nat.min_le_left _ _) (by omega))
        exact Nat.lt_of_le_of_lt h4 (szl1000 rfl)
      · dsimp only
        rw [take_snoc zz, List.map_append]
        rfl
    · rintro L rfl
      fail "x"
      refine rc_all bd.calm (by fail "at") ?_
      rw [List.take_of_length_le (by rw [List.length_zipWith, List.length_map, List.length_tail, List.length_tail, List.length_map]; exact Nat.le_refl _)]
      exact fun H' z => (k _ ((chain_pairwise (fun x hx => h1 x (hp.mem_iff.mp hx)) hs).trans (fit_perm hp))).e0 z)
theorem ok_isIP (T : Tx P K mg c) : DefT P w K mg base CX0 1 "is_integer" spIsIP :=
  T.is_integer.ok bi_is_integer fun f fd F => fk_body F sc_is_integer lo_is_integer pl_is_integer (by (conv => lhs; whnf)) (fun vs H Q E h => by obtain ⟨x, t, rfl, _⟩ := h; rfl) (fun X bd ns H vs Q E h => by
    obtain ⟨x, t, rfl, hp, k⟩ := h
    have nm := bd.nm
    have hB := T.blt
    with_reducible refine wb_go (M := fun _ => False) (L := []) (σ := [some x]) ?e .s0 ?_
    (case e => rfl)
    fail "x"
    refine ke_c (pe_bltn (v := .ty "int") (bd.gl rfl) (bd.no (hB _ (by fail "mem"))) bo_int rfl) ?_
    fail "x"
    obtain ⟨b, k1, k2, k3⟩ := hp.kitI (K := X.K)
    refine rc_isi (.ty "int") (fun H' z => (hp.ext z.ext0).tyx) k1 ?_
    cases b
    · refine ⟨false, rfl, nofun, fun _ => ?_⟩
      rw [k2 rfl] at k
      exact fun H' z => k.e0 z
    · refine pick_T ?_
      fail "x"
      refine ke_c (pe_bltn (v := .ty "bool") (bd.gl rfl) (bd.no (hB _ (by fail "mem"))) bo_bool rfl) ?_
      fail "x"
      refine rc_isi (.ty "bool") (fun H' z => (hp.ext z.ext0).tyx) (k3 rfl) ?_
      fail "x"
      rw [Bool.not_not]
      exact fun H' z => k.e0 z)
theorem ok_below (T : Tx P K mg c) : DefT P w K mg base CX0 2 "is_below" spBelow :=
  T.is_below.ok bi_is_below fun f fd F => fk_body F sc_is_below lo_is_below pl_is_below (by (conv => lhs; whnf)) (fun vs H Q E h => by obtain ⟨x, t, b, rfl, _⟩ := h; rfl) (fun X bd ns H vs Q E h => by
    obtain ⟨x, t, b, rfl, hp, k⟩ := h
    have nm := bd.nm
    have hB := T.blt
    have d1 := ok_isIP (P := P) (w := w) (base := base) T
    with_reducible refine wb_go (M := fun _ => False) (L := []) (σ := [some x, some (.int b)]) ?e .s0 ?_
    (case e => rfl)
    fail "x"
    refine rs_isIP (fun H' z => hp.ext z.ext0) ?_
    cases hp with
    | int i =>
      refine pick_T ?_
      fail "x"
      refine pick_dec (fun h0 => ?_) (fun h0 => ?_)
      · fail "x"
        exact fun H' z => by
          rw [show belowV (.int i) b = decide (i < b) by show (decide (0 ≤ i) && decide (i < b)) = _; rw [decide_eq_true h0, Bool.true_and]] at k
          exact k.e0 z
      · exact fun H' z => by
          rw [show belowV (.int i) b = false by show (decide (0 ≤ i) && decide (i < b)) = _; rw [decide_eq_false h0, Bool.false_and]] at k
          exact k.e0 z
    | non => exact pick_F fun H' z => k.e0 z
    | bl => exact pick_F fun H' z => k.e0 z
    | str => exact pick_F fun H' z => k.e0 z
    | lst => exact pick_F fun H' z => k.e0 z
    | tup => exact pick_F fun H' z => k.e0 z
    | dK => exact pick_F fun H' z => k.e0 z)
theorem ok_row (T : Tx P K mg c) : DefT P w K mg base CX0 2 "is_row" spRow :=
  T.is_row.ok bi_is_row fun f fd F => fk_body F sc_is_row lo_is_row pl_is_row (by (conv => lhs; whnf)) (fun vs H Q E h => by obtain ⟨a, xs, m, rfl, _⟩ := h; rfl) (fun X bd ns H vs Q E h => by
    obtain ⟨a, xs, m, rfl, ha, hl, k⟩ := h
    have nm := bd.nm
    have hB := T.blt
    have d1 := ok_is_integer (P := P) (w := w) (base := base) T
    with_reducible refine wb_go (M := fun _ => False) (L := [(a, .tup (xs.map V.int))]) (σ := [some (.ref a), some (.int m), none]) ?e (.s1 ha) ?_
    (case e => rfl)
    fail "x"
    refine ke_c (pe_bltn (v := .ty "tuple") (bd.gl rfl) (bd.no (hB _ (by fail "mem"))) bo_tuple rfl) ?_
    fail "x"
    refine rc_isi (.ty "tuple") (fun H z => .base (.tup (z.get .here))) (kit_ty (b := "tuple") (r := true) (by decide +kernel)) ?_
    refine pick_T ?_
    have lnx : (xs.map V.int).length = xs.length := List.length_map _
    fail "x"
    refine pick_dec (fun h0 => ?_) (fun h0 => ?_)
    · fail "x"
      refine Body.lcF true V.int bd ns [("part", 2)] ["part"] ["part"] (fun _ => .bl true) ⟨rfl, by decide +kernel, by decide +kernel, by decide +kernel, by decide +kernel⟩ (by decide +kernel) (by decide +kernel) (by decide +kernel) (by intro _; rfl) ?_
      fail "x"
      refine ⟨a, xs, rfl, (show At _ a (.tup _) from by fail "at"), hl, fun x hx D acc nD B bB nB => ?_, fun D nD => ?_⟩
      · rw [show wipe [some (V.ref a), some (V.int m), none] _ = [some (V.ref a), some (V.int m), none] from rfl]
        have nm1 := bB.nm
        fail "x"
        intro B2 bB2
        have nm2 := bB2.nm
        fail "x"
        exact .refl _
      · fail "x"
        refine rc_all (bs := xs.map fun _ => true) bd.calm (by rw [List.map_map]; exact .here) ?_
        rw [show (xs.map fun _ => true).all id = true by simp]
        rw [lnx] at h0
        rw [decide_eq_true h0] at k
        exact fun H' z => k.e0 z
    · exact fun H' z => by
        rw [lnx] at h0
        rw [decide_eq_false h0] at k
        exact k.e0 z)
theorem ok_planned (T : Tx P K mg c) : DefT P w K mg base CX0 3 "is_planned" spPlanned :=
  T.is_planned.ok bi_is_planned fun f fd F => fk_body F sc_is_planned lo_is_planned pl_is_planned (by (conv => lhs; whnf)) (fun vs H Q E h => by obtain ⟨a, x, y, rfl, _⟩ := h; rfl) (fun X bd ns H vs Q E h => by
    obtain ⟨a, x, y, rfl, ha, h1, h2, k⟩ := h
    have nm := bd.nm
    have hB := T.blt
    have d1 := ok_row (P := P) (w := w) (base := base) T
    with_reducible refine wb_go (M := fun _ => False) (L := [(a, .tup [.int x, .int y])]) (σ := [some (.ref a)]) ?e (.s1 ha) ?_
    (case e => rfl)
    fail "x"
    refine rs_row (xs := [x, y]) .here (by show 2 ≤ 1000; decide) ?_
    rw [show decide ((([x, y] : List Int).length : Int) = 2) = true from rfl]
    fail "x"
    rw [decide_eq_true h2]
    exact fun H' z => k.e0 z)
theorem ok_wish (T : Tx P K mg c) : DefT P w K mg base CX0 3 "is_wish" spWish :=
  T.is_wish.ok bi_is_wish fun f fd F => fk_body F sc_is_wish lo_is_wish pl_is_wish (by (conv => lhs; whnf)) (fun vs H Q E h => by obtain ⟨a, x, y, z, m, rfl, _⟩ := h; rfl) (fun X bd ns H vs Q E h => by
    obtain ⟨a, x, y, u, m, rfl, ha, h1, h2, h3, h4, h5, k⟩ := h
    have nm := bd.nm
    have hB := T.blt
    have d1 := ok_row (P := P) (w := w) (base := base) T
    have d2 := ok_below (P := P) (w := w) (base := base) T
    with_reducible refine wb_go (M := fun _ => False) (L := [(a, .tup [.int x, .int y, .int u])]) (σ := [some (.ref a), some (.int m)]) ?e (.s1 ha) ?_
    (case e => rfl)
    fail "x"
    refine rs_row (xs := [x, y, u]) .here (by show 3 ≤ 1000; decide) ?_
    rw [show decide ((([x, y, u] : List Int).length : Int) = 3) = true from rfl]
    fail "x"
    refine rs_belowI ?_
    rw [decide_eq_true h1, decide_eq_true h2, Bool.and_self]
    fail "x"
    refine rs_belowI ?_
    rw [decide_eq_true h3, decide_eq_true h4, Bool.and_self]
    fail "x"
    rw [decide_eq_true h5]
    exact fun H' z => k.e0 z)
theorem ok_fixing (T : Tx P K mg c) : DefT P w K mg base CX0 3 "is_fixing" spFixing :=
  T.is_fixing.ok bi_is_fixing fun f fd F => fk_body F sc_is_fixing lo_is_fixing pl_is_fixing (by (conv => lhs; whnf)) (fun vs H Q E h => by obtain ⟨a, l, x, y, ps, rfl, _⟩ := h; rfl) (fun X bd ns H vs Q E h => by
    obtain ⟨a, l, x, y, ps, rfl, ha, hl, hps, h1, h2, h3, k⟩ := h
    have nm := bd.nm
    have hB := T.blt
    have d1 := ok_row (P := P) (w := w) (base := base) T
    have d2 := ok_below (P := P) (w := w) (base := base) T
    have lnx : (ps.map T2.v).length = ps.length := List.length_map _
    obtain ⟨i, rfl⟩ := Int.eq_ofNat_of_zero_le h1
    obtain ⟨p, hp⟩ : ∃ p, ps[i]? = some p := ⟨_, List.getElem?_eq_getElem (by omega)⟩
    obtain ⟨h4, h5⟩ := h3 p hp
    with_reducible refine wb_go (M := fun _ => False) (L := [(a, .tup [.int i, .int y]), (l, .lst (ps.map T2.v)), p.o]) (σ := [some (.ref a), some (.ref l)]) ?e (.any ?h1) ?_
    (case e => rfl)
    (case h1 =>
      intro q hq
      simp only [List.mem_cons, List.not_mem_nil, or_false] at hq
      rcases hq with rfl | rfl | rfl
      · exact ha
      · exact hl
      · exact hps p (List.mem_of_getElem? hp))
    fail "x"
    refine rs_row (xs := [(i : Int), y]) .here (by show 2 ≤ 1000; decide) ?_
    rw [show decide ((([(i : Int), y] : List Int).length : Int) = 2) = true from rfl]
    fail "x"
    rw [lnx]
    refine rs_belowI ?_
    rw [decide_eq_true h1, decide_eq_true h2, Bool.and_self]
    fail "x"
    refine ix_lst (v := p.v) (by fail "at") (atI_nat rfl (by rw [List.getElem?_map, hp]; rfl)) ?_
    fail "x"
    refine rs_belowI ?_
    rw [decide_eq_true h4, decide_eq_true h5, Bool.and_self]
    exact fun H' z => k.e0 z)
theorem ok_check_lines (T : Tx P K mg c) : DefT P w K mg base CX0 4 "check_lines" spCheckLines :=
  T.check_lines.ok bi_check_lines fun f fd F => fk_body F sc_check_lines lo_check_lines pl_check_lines (by (conv => lhs; whnf)) (fun vs H Q E h => by obtain ⟨l, ps, rfl, _⟩ := h; rfl) (fun X bd ns H vs Q E h => by
    obtain ⟨l, ps, rfl, hl, hps, n1, n2, hp, hf, k⟩ := h
    have nm := bd.nm
    have hB := T.blt
    have d1 := ok_planned (P := P) (w := w) (base := base) T
    have d2 := ok_all_fit (P := P) (w := w) (base := base) T
    have lnx : (ps.map T2.v).length = ps.length := List.length_map _
    have al : Alls T2.o (ps.map T2.o) ps := .self
    with_reducible refine wb_go (M := fun _ => False) (L := (l, .lst (ps.map T2.v)) :: ps.map T2.o) (σ := [some (.ref l), none, none, none]) ?e (.any ?h1) ?_
    (case e => rfl)
    (case h1 =>
      intro q hq
      rcases List.mem_cons.mp hq with e | hq
      · rw [e]; exact hl
      · obtain ⟨x, hx, rfl⟩ := List.mem_map.mp hq
        exact hps x hx)
    fail "x"
    refine ke_c (pe_bltn (v := .ty "list") (bd.gl rfl) (bd.no (hB _ (by fail "mem"))) bo_list rfl) ?_
    fail "x"
    refine rc_isi (.ty "list") (fun H z => .base (.lst (z.get .here))) (kit_ty (b := "list") (r := true) (by decide +kernel)) ?_
    fail "y"
    refine bd.gint T.mostl rfl rfl ?_
    fail "y"
    refine Body.lcF false T2.v bd ns [("row", 1)] ["row"] ["row"] (fun _ => .bl true) ⟨rfl, by decide +kernel, by decide +kernel, by decide +kernel, by decide +kernel⟩ (by decide +kernel) (by decide +kernel) (by decide +kernel) (by intro _; rfl) ?_
    fail "x"
    refine ⟨l, ps, rfl, (show At _ l (.lst _) from by fail "at"), by omega, fun x hx D acc nD B bB nB => ?_, fun D nD => ?_⟩
    · rw [show wipe [some (V.ref l), none, none, none] _ = [some (V.ref l), none, none, none] from rfl]
      have nm1 := bB.nm
      fail "x"
      intro B2 bB2
      have nm2 := bB2.nm
      fail "x"
      refine rs_planned (x := x.x) (y := x.y) (.there (.there (al x hx))) (hp x hx).1 (hp x hx).2 ?_
      fail "x"
      exact .refl _
    · fail "x"
      refine rc_all (bs := ps.map fun _ => true) bd.calm (by rw [List.map_map]; exact .here) ?_
      rw [show (ps.map fun _ => true).all id = true by simp]
      fail "y"
      refine Body.lcF false T2.v bd ns [("every", 2), ("ride", 3)] ["every", "ride"] ["every", "ride"] (fun x => .int x.x) ⟨rfl, by decide +kernel, by decide +kernel, by decide +kernel, by decide +kernel⟩ (by decide +kernel) (by decide +kernel) (by decide +kernel) (by intro _; rfl) ?_
      fail "x"
      refine ⟨l, ps, rfl, (show At _ l (.lst _) from by fail "at"), by omega, fun x hx D2 acc nD2 B bB nB => ?_, fun D2 nD2 => ?_⟩
      · rw [show wipe [some (V.ref l), none, none, none] _ = [some (V.ref l), none, none, none] from rfl]
        have nm1 := bB.nm
        have ix : At (ps.map T2.o) x.a (.tup [.int x.x, .int x.y]) := al x hx
        fail "x"
        intro B2 bB2
        have nm2 := bB2.nm
        fail "x"
        exact .refl _
      · fail "x"
        refine rs_allFit (is := ps.map (·.x)) (by rw [List.map_map]; exact .here) ?_ (by rw [List.length_map]; omega) (fun b hb => ?_)
        · intro y hy
          obtain ⟨x, hx, rfl⟩ := List.mem_map.mp hy
          exact (hp x hx).1
        have hb' : b = true := hb.mpr hf
        subst hb'
        fail "y"
        exact fun H' z => k.e0 z)
theorem ok_check_wishes (T : Tx P K mg c) : DefT P w K mg base CX0 4 "check_wishes" spCheckWishes :=
  T.check_wishes.ok bi_check_wishes fun f fd F => fk_body F sc_check_wishes lo_check_wishes pl_check_wishes (by (conv => lhs; whnf)) (fun vs H Q E h => by obtain ⟨l, ls, m, rfl, _⟩ := h; rfl) (fun X bd ns H vs Q E h => by
    obtain ⟨l, ls, m, rfl, hl, hls, n2, hp, k⟩ := h
    have nm := bd.nm
    have hB := T.blt
    have d1 := ok_wish (P := P) (w := w) (base := base) T
    have lnx : (ls.map T3w.v).length = ls.length := List.length_map _
    have al : Alls T3w.o (ls.map T3w.o) ls := .self
    with_reducible refine wb_go (M := fun _ => False) (L := (l, .lst (ls.map T3w.v)) :: ls.map T3w.o) (σ := [some (.ref l), some (.int m), none]) ?e (.any ?h1) ?_
    (case e => rfl)
    (case h1 =>
      intro q hq
      rcases List.mem_cons.mp hq with e | hq
      · rw [e]; exact hl
      · obtain ⟨x, hx, rfl⟩ := List.mem_map.mp hq
        exact hls x hx)
    fail "x"
    refine ke_c (pe_bltn (v := .ty "list") (bd.gl rfl) (bd.no (hB _ (by fail "mem"))) bo_list rfl) ?_
    fail "x"
    refine rc_isi (.ty "list") (fun H z => .base (.lst (z.get .here))) (kit_ty (b := "list") (r := true) (by decide +kernel)) ?_
    fail "y"
    refine bd.gint T.mostw rfl rfl ?_
    fail "y"
    refine Body.lcF false T3w.v bd ns [("row", 2)] ["row", "many"] ["row"] (fun _ => .bl true) ⟨rfl, by decide +kernel, by decide +kernel, by decide +kernel, by decide +kernel⟩ (by decide +kernel) (by decide +kernel) (by decide +kernel) (by intro _; rfl) ?_
    fail "x"
    refine ⟨l, ls, rfl, (show At _ l (.lst _) from by fail "at"), by omega, fun x hx D acc nD B bB nB => ?_, fun D nD => ?_⟩
    · rw [show wipe [some (V.ref l), some (V.int m), none] _ = [some (V.ref l), some (V.int m), none] from rfl]
      have nm1 := bB.nm
      fail "x"
      intro B2 bB2
      have nm2 := bB2.nm
      fail "x"
      obtain ⟨x1, x2, x3, x4, x5⟩ := hp x hx
      refine rs_wish (x := x.x) (y := x.y) (z := x.z) (.there (.there (al x hx))) x1 x2 x3 x4 x5 ?_
      fail "x"
      exact .refl _
    · fail "x"
      refine rc_all (bs := ls.map fun _ => true) bd.calm (by rw [List.map_map]; exact .here) ?_
      rw [show (ls.map fun _ => true).all id = true by simp]
      fail "y"
      exact fun H' z => k.e0 z)
theorem ok_check_fixed (T : Tx P K mg c) : DefT P w K mg base CX0 4 "check_fixed" spCheckFixed :=
  T.check_fixed.ok bi_check_fixed fun f fd F => fk_body F sc_check_fixed lo_check_fixed pl_check_fixed (by (conv => lhs; whnf)) (fun vs H Q E h => by obtain ⟨f, l, hs, ps, rfl, _⟩ := h; rfl) (fun X bd ns H vs Q E h => by
    obtain ⟨f, l, hs, ps, rfl, hf, hhs, hl, hps, n1, nd, hk, k⟩ := h
    have nm := bd.nm
    have hB := T.blt
    have d1 := ok_fixing (P := P) (w := w) (base := base) T
    have lnx : (hs.map T2.v).length = hs.length := List.length_map _
    have al : Alls T2.o (hs.map T2.o ++ ps.map T2.o) hs := .app_l .self
    have al2 : Alls T2.o (hs.map T2.o ++ ps.map T2.o) ps := .app_r .self
    with_reducible refine wb_go (M := fun _ => False) (L := (f, .lst (hs.map T2.v)) :: (l, .lst (ps.map T2.v)) :: (hs.map T2.o ++ ps.map T2.o)) (σ := [some (.ref f), some (.ref l), none, none, none]) ?e (.any ?h1) ?_
    (case e => rfl)
    (case h1 =>
      intro q hq
      rcases List.mem_cons.mp hq with e | hq
      · rw [e]; exact hf
      rcases List.mem_cons.mp hq with e | hq
      · rw [e]; exact hl
      rcases List.mem_append.mp hq with hq | hq
      · obtain ⟨x, hx, rfl⟩ := List.mem_map.mp hq
        exact hhs x hx
      · obtain ⟨x, hx, rfl⟩ := List.mem_map.mp hq
        exact hps x hx)
    fail "x"
    refine ke_c (pe_bltn (v := .ty "list") (bd.gl rfl) (bd.no (hB _ (by fail "mem"))) bo_list rfl) ?_
    fail "x"
    refine rc_isi (.ty "list") (fun H z => .base (.lst (z.get .here))) (kit_ty (b := "list") (r := true) (by decide +kernel)) ?_
    fail "y"
    refine Body.lcF false T2.v bd ns [("row", 4)] ["row", "lines"] ["row"] (fun _ => .bl true) ⟨rfl, by decide +kernel, by decide +kernel, by decide +kernel, by decide +kernel⟩ (by decide +kernel) (by decide +kernel) (by decide +kernel) (by intro _; rfl) ?_
    fail "x"
    refine ⟨f, hs, rfl, (show At _ f (.lst _) from by fail "at"), by omega, fun x hx D acc nD B bB nB => ?_, fun D nD => ?_⟩
    · rw [show wipe [some (V.ref f), some (V.ref l), none, none, none] _ = [some (V.ref f), some (V.ref l), none, none, none] from rfl]
      have nm1 := bB.nm
      fail "x"
      intro B2 bB2
      have nm2 := bB2.nm
      fail "x"
      obtain ⟨x1, x2, x3⟩ := hk x hx
      refine rs_fixing (x := x.x) (y := x.y) (ps := ps) (.there (.there (.there (al x hx)))) (by fail "at") (fun y hy => .there (.there (.there (al2 y hy)))) x1 x2 x3 ?_
      fail "x"
      exact .refl _
    · fail "x"
      refine rc_all (bs := hs.map fun _ => true) bd.calm (by rw [List.map_map]; exact .here) ?_
      rw [show (hs.map fun _ => true).all id = true by simp]
      fail "y"
      refine Body.siL T2.v (·.x) bd ns [("i", 2), ("at", 3)] ["i", "at"] ["i", "at"] ⟨rfl, by decide +kernel, by decide +kernel, by decide +kernel, by decide +kernel⟩ (by decide +kernel) (by decide +kernel) (by decide +kernel) (by intro _; rfl) ?_
      fail "x"
      refine ⟨f, hs, rfl, (show At _ f (.lst _) from by fail "at"), by omega, fun x hx D2 acc nD2 B bB nB => ?_, fun D2 cc nD2 hc hn => ?_⟩
      · rw [show wipe [some (V.ref f), some (V.ref l), none, none, none] _ = [some (V.ref f), some (V.ref l), none, none, none] from rfl]
        have nm1 := bB.nm
        have ix : At (hs.map T2.o ++ ps.map T2.o) x.a (.tup [.int x.x, .int x.y]) := al x hx
        fail "x"
        intro B2 bB2
        have nm2 := bB2.nm
        fail "x"
        exact .refl _
      · fail "x"
        refine rc_lenSI (n := cc) (by rw [bd.w]; exact .here) (by omega) ?_
        have := hn nd
        fail "y"
        exact fun H' z => k.e0 z)
end

/-- the drawn lines with their departures -/
structure PairsOk (is : List Int) (ps : List T2) (ts : List Int) : Prop where
  len : ts.length = ps.length
  mem : ∀ p ∈ ps, p.x ∈ is
  rid : ∀ p ∈ ps, 0 ≤ p.y ∧ p.y ≤ 1000000000000000000000000000000
  dep : ∀ (k : Nat) (p : T2) (t : Int), ps[k]? = some p → ts[k]? = some t → 0 ≤ t ∧ t < p.x
theorem PairsOk.nil {is : List Int} : PairsOk is [] [] := ⟨rfl, by simp, by simp, by simp⟩
theorem PairsOk.snoc {is : List Int} {ps : List T2} {ts : List Int} {p : T2} {t : Int} (h : PairsOk is ps ts) (m : p.x ∈ is) (r0 : 0 ≤ p.y) (r1 : p.y ≤ 1000000000000000000000000000000) (t0 : 0 ≤ t) (t1 : t < p.x) : PairsOk is (ps ++ [p]) (ts ++ [t]) :=
  ⟨by rw [List.length_append, List.length_append, h.len]; rfl, fun q hq => (List.mem_append.mp hq).elim (h.mem q) fun z => by rw [List.mem_singleton.mp z]; exact m,
    fun q hq => (List.mem_append.mp hq).elim (h.rid q) fun z => by rw [List.mem_singleton.mp z]; exact ⟨r0, r1⟩, fun k q u hq hu => by
      rcases Nat.lt_trichotomy k ps.length with lt | rfl | gt
      · rw [List.getElem?_append_left lt] at hq
        rw [List.getElem?_append_left (by rw [h.len]; exact lt)] at hu
        exact h.dep k q u hq hu
      · rw [List.getElem?_append_right (Nat.le_refl _), Nat.sub_self] at hq
        rw [List.getElem?_append_right (by rw [h.len]; exact Nat.le_refl _), h.len, Nat.sub_self] at hu
        cases hq; cases hu
        exact ⟨t0, t1⟩
      · rw [List.getElem?_eq_none (by rw [List.length_append]; simp; omega)] at hq
        cases hq⟩
/-- a wish of the scene -/
structure LookOk (bad : Bool) (ps : List T2) (ts : List Int) (l : T3w) : Prop where
  i0 : 0 ≤ l.x
  i1 : l.x < ps.length
  j0 : 0 ≤ l.y
  j1 : l.y < ps.length
  w0 : 0 ≤ l.z
  fits : bad = false → ∀ (p q : T2) (t u : Int), ps[l.x.toNat]? = some p → ps[l.y.toNat]? = some q → ts[l.x.toNat]? = some t → ts[l.y.toNat]? = some u → (t + p.y + l.z - u) % (if q.x < p.x then q.x else p.x) = 0
/-- the fixed departures -/
structure HeldOk (bad : Bool) (n : Nat) (ps : List T2) (ts : List Int) (hs : List T2) : Prop where
  dis : (hs.map (·.x)).Nodup
  ix : ∀ h ∈ hs, 0 ≤ h.x ∧ h.x < n
  dep : ∀ h ∈ hs, ∀ p, ps[h.x.toNat]? = some p → 0 ≤ h.y ∧ h.y < p.x
  own : bad = false → ∀ h ∈ hs, ts[h.x.toNat]? = some h.y
  len : hs.length ≤ n
theorem HeldOk.nil {bad : Bool} {ps : List T2} {ts : List Int} : HeldOk bad 0 ps ts [] := ⟨by simp, by simp, by simp, by simp, Nat.le_refl _⟩
theorem HeldOk.up {bad : Bool} {n : Nat} {ps : List T2} {ts : List Int} {hs : List T2} (h : HeldOk bad n ps ts hs) : HeldOk bad (n + 1) ps ts hs :=
  ⟨h.dis, fun x hx => ⟨(h.ix x hx).1, by have := (h.ix x hx).2; omega⟩, h.dep, h.own, Nat.le_succ_of_le h.len⟩
theorem ins_perm {α : Type} (x : α) (m : Nat) (xs : List α) : (xs.take m ++ [x] ++ xs.drop m).Perm (x :: xs) := by
  have e := (List.perm_append_singleton x (xs.take m)).append_right (xs.drop m)
  rwa [List.cons_append, List.take_append_drop] at e
theorem perm_ins {α : Type} {X A B C D : List α} {x : α} (pm : D.Perm (x :: C)) : (X ++ (A ++ (B ++ D))).Perm (x :: (X ++ (A ++ (B ++ C)))) := by
  have e : (X ++ (A ++ (B ++ D))).Perm (X ++ (A ++ (B ++ x :: C))) := ((pm.append_left B).append_left A).append_left X
  refine e.trans ?_
  have e2 : X ++ (A ++ (B ++ x :: C)) = (X ++ (A ++ B)) ++ x :: C := by simp only [List.append_assoc]
  have e3 : X ++ (A ++ (B ++ C)) = (X ++ (A ++ B)) ++ C := by simp only [List.append_assoc]
  rw [e2, e3]
  exact List.perm_middle
theorem HeldOk.ins {bad : Bool} {n m : Nat} {ps : List T2} {ts : List Int} {hs : List T2} {x : T2} (h : HeldOk bad n ps ts hs) (e : x.x = n) (d : ∀ p, ps[n]? = some p → 0 ≤ x.y ∧ x.y < p.x) (o : bad = false → ts[n]? = some x.y) : HeldOk bad (n + 1) ps ts (hs.take m ++ [x] ++ hs.drop m) := by
  have pm := ins_perm x m hs
  have mem : ∀ y ∈ hs.take m ++ [x] ++ hs.drop m, y = x ∨ y ∈ hs := fun y hy => List.mem_cons.mp (pm.mem_iff.mp hy)
  have ex : x.x.toNat = n := by rw [e]; rfl
  refine ⟨?_, fun y hy => ?_, fun y hy p hp => ?_, fun b y hy => ?_, ?_⟩
  · refine (pm.map (·.x)).nodup_iff.mpr (List.nodup_cons.mpr ⟨fun z => ?_, h.dis⟩)
    obtain ⟨y, hy, ey⟩ := List.mem_map.mp z
    have := (h.ix y hy).2
    have ey : y.x = x.x := ey
    omega
  · rcases mem y hy with rfl | hy
    · omega
    · have := h.ix y hy
      omega
  · rcases mem y hy with rfl | hy
    · rw [ex] at hp; exact d p hp
    · exact h.dep y hy p hp
  · rcases mem y hy with rfl | hy
    · rw [ex]; exact o b
    · exact h.own b y hy
  · rw [pm.length_eq]
    exact Nat.succ_le_succ h.len
/-- what the scene lays -/
abbrev sceneL (R pp pl ph pa : Addr) (ps : List T2) (ls : List T3w) (hs : List T2) (ts : List Int) : LL :=
  (R, .lst [.ref pp, .ref pl, .ref ph, .ref pa]) :: (ph, .lst (hs.map T2.v)) :: (pl, .lst (ls.map T3w.v)) :: (pa, .lst (ts.map V.int)) :: (pp, .lst (ps.map T2.v)) :: (ps.map T2.o ++ (ls.map T3w.o ++ hs.map T2.o))
theorem fits_walk {t1 t2 y ms k0 : Int} : (t1 + y + ((t2 - t1 - y) % ms + ms * k0) - t2) % ms = 0 := by
  have e : t1 + y + ((t2 - t1 - y) % ms + ms * k0) - t2 = ms * (k0 - (t2 - t1 - y) / ms) := by
    rw [Int.emod_def, Int.mul_sub]
    omega
  rw [e]
  exact Int.mul_emod_right _ _
def spScene : Sp := fun vs H Q _ => ∃ (f ch : Addr) (a b c most links : Int) (is : List Int) (bad : Bool), vs = [.ref f, .ref ch, .int most, .int links, .bl bad] ∧ H f = some (feedO a b c) ∧ H ch = some (.lst (is.map V.int)) ∧ f ≠ ch ∧ 0 ≤ a ∧ 0 ≤ b ∧ b ≤ 1000000000000000000000000000000000000000000 ∧ 0 ≤ c ∧ c ≤ 10000000000000000000000000000 ∧
  ChainOk topU is ∧ is.length ≤ 4 ∧ 1 ≤ most ∧ most ≤ 100 ∧ 0 ≤ links ∧ links ≤ 200 ∧
  ∀ R pp pl ph pa a' c' ps ls hs ts, H R = none → 0 ≤ a' → c ≤ c' → c' ≤ c + 10000 → PairsOk is ps ts → 1 ≤ ps.length → (ps.length : Int) ≤ most → (ls.length : Int) ≤ links → (∀ l ∈ ls, LookOk bad ps ts l) → HeldOk bad ps.length ps ts hs → RetC H Q (.ref R) f (feedO a' b c') (sceneL R pp pl ph pa ps ls hs ts)

local macro_rules | `(tactic| fail "nx") => `(tactic| ((with_reducible apply rs_tug); (fail "spot"); (fail "mark"); (omega); (omega); (omega); (omega); (omega); (omega); (omega); (intro _ _ _ _ _ _ _ _)))
local macro_rules | `(tactic| fail "x") => `(tactic| repeat first | fail "1" | fail "nx")
local macro_rules | `(tactic| fail "if") => `(tactic| repeat ((fail_if_success (with_reducible show kb _ _ _ (Stmt.If _ _ _ _ :: _) _ _ _ _ _ _)); (first | fail "1" | fail "nx")))
local macro_rules | `(tactic| fail "ife") => `(tactic| repeat ((fail_if_success (with_reducible show kb _ _ _ (Stmt.Assign _ (Expr.IfExp _ _ _ _) _ :: _) _ _ _ _ _ _)); (first | fail "1" | fail "nx")))
local macro_rules | `(tactic| fail "asg") => `(tactic| ((with_reducible refine kb_seq ?_); (with_reducible refine' Body.asgT ?bd ?hs ?hw ?h1 ?h); (case bd => (with_reducible assumption)); (case hs => (intro env he; cases env; cases he; rfl)); (case hw => (intro env he; cases env; cases he; rfl)); (case h1 => rfl)))
section
variable {P : Program} {w : World} {K : PySem.W.Frag} {mg : Str → Option Value} {base : Heap} {c : Cp}
theorem ok_scene (T : Tx P K mg c) : DefT P w K mg base CX0 3 "_law_scene" spScene :=
  T.scene.ok bi_scene fun f fd F => fk_body F sc_scene lo_scene pl_scene (by (conv => lhs; whnf)) (fun vs H Q E h => by obtain ⟨f, ch, a, b, c, most, links, is, bad, rfl, _⟩ := h; rfl) (fun X bd ns H vs Q E h => by
    obtain ⟨f, ch, a, b, c, most, links, is, bad, rfl, hf, hch, ne, ha, hb, hb1, hc, hc1, ok, hl, hm0, hm1, hk0, hk1, k⟩ := h
    have nm := bd.nm
    have hB := T.blt
    have d1 := ok_tug (P := P) (w := w) (base := base) T
    with_reducible refine wb_go (M := fun x => x = f) (L := [(f, feedO a b c), (ch, .lst (is.map V.int))]) (σ := [some (.ref f), some (.ref ch), some (.int most), some (.int links), some (.bl bad), none, none, none, none, none, none, none, none, none, none, none, none, none, none, none, none]) ?e (.m2 ne hf hch) ?_
    (case e => rfl)
    fail "asg"
    fail "x"
    rename_i qp nqp qa nqa ql nql qh nqh qt nqt
    have hlm : (is.map V.int).length = is.length := List.length_map _
    have hl0 : 0 < is.length := List.length_pos_iff.mpr ok.ne
    refine kb_sub (L' := [(qh, .lst []), (ql, .lst []), (qa, .lst []), (qp, .lst []), (f, feedO a b c), (ch, .lst (is.map V.int))]) (by fail "sub") ?_
    refine kb_seq (ks_for bd.own bd.calm (by intro _; rfl) ?_)
    refine ki_range1 (bd.gl rfl) (bd.no (hB _ (by fail "mem"))) rfl ?_
    fail "x"
    rename_i r1 a1 c1 hr1 hr2 ha1 hc2 hc3
    refine ⟨by omega, by omega, fun J wk => ⟨_, _, _, fun i σ L => ∃ (a' c' : Int) (ps : List T2) (ts : List Int) (o1 o2 o3 : Option V), L = (qh, .lst []) :: (ql, .lst []) :: (qa, .lst (ts.map V.int)) :: (qp, .lst (ps.map T2.v)) :: (f, feedO a' b c') :: (ch, .lst (is.map V.int)) :: ps.map T2.o ∧ 0 ≤ a' ∧ c ≤ c' ∧ c' ≤ c + 10 + 10 * (i : Int) ∧ PairsOk is ps ts ∧ ps.length = i ∧ (∀ p ∈ ps, H p.a = none) ∧ σ = [some (.ref f), some (.ref ch), some (.int most), some (.int links), some (.bl bad), some (.ref qp), some (.ref qa), some (.ref ql), some (.ref qh), o1, o2, o3, none, none, none, none, none, none, none, none, none], wk, ?_, fun _ _ _ _ _ => trivial, ?_, ?_⟩⟩
    · exact ⟨_, _, [], [], none, none, none, rfl, ha1, by omega, by omega, .nil, rfl, by simp, rfl⟩
    · rintro i x σ L L' hi ⟨a', c', ps, ts, o1, o2, o3, rfl, ha', hc4, hc5, pk, hpl, fr, rfl⟩ ⟨rfl, rfl⟩
      have hi1 : i < 100 := by omega
      fail "x"
      refine ix_I (fun x => 1 ≤ x ∧ x ≤ topU ∧ x ∈ is) ?_
      fail "aq"
      refine ⟨is, rfl, by omega, by omega, fun v hv => ⟨(ok.rng v hv).1, (ok.rng v hv).2, hv⟩, ?_⟩
      rintro g ⟨g1, g2, g3⟩
      have g4 : g ≤ 100000000000000000000000000000000000000000000000000 := g2
      fail "x"
      refine ix_I (fun x => 0 ≤ x ∧ x ≤ 1000000000000000000000000000000) ?_
      fail "ixI"
      rename_i w0 hw0
      fail "x"
      rename_i tp ntp
      refine ⟨_, _, by fail "spot", .inl nqp, by rw [List.length_map, hpl]; exact Nat.lt_of_le_of_lt (show i ≤ 1000 by omega) (szl1000 rfl), ?_⟩
      rw [show List.map T2.v ps ++ [V.ref tp] = (ps ++ [(⟨tp, g, w0⟩ : T2)]).map T2.v by rw [List.map_append]; rfl]
      fail "x"
      rename_i t0 a6 c6 ht0 ht1 ha6 hc8 hc9
      refine ⟨_, _, by fail "spot", .inl nqa, by rw [List.length_map, pk.len, hpl]; exact Nat.lt_of_le_of_lt (show i ≤ 1000 by omega) (szl1000 rfl), ?_⟩
      rw [← map_snoc]
      refine kb_nilP (L' := (qh, .lst []) :: (ql, .lst []) :: (qa, .lst ((ts ++ [t0]).map V.int)) :: (qp, .lst ((ps ++ [(⟨tp, g, w0⟩ : T2)]).map T2.v)) :: (f, feedO a6 b c6) :: (ch, .lst (is.map V.int)) :: (ps ++ [(⟨tp, g, w0⟩ : T2)]).map T2.o)
        (L'' := (tp, .tup [.int g, .int w0]) :: (qh, .lst []) :: (ql, .lst []) :: (qa, .lst ((ts ++ [t0]).map V.int)) :: (qp, .lst ((ps ++ [(⟨tp, g, w0⟩ : T2)]).map T2.v)) :: (f, feedO a6 b c6) :: (ch, .lst (is.map V.int)) :: ps.map T2.o) ?_ (.cons₂ _ (.cons _ (.refl _))) ⟨_, _, ps ++ [⟨tp, g, w0⟩], ts ++ [t0], _, _, _, rfl, ha6, by omega, by omega, pk.snoc g3 hw0.1 hw0.2 ht0 ht1, by rw [List.length_append, hpl]; rfl, fun p hp => ?_, rfl⟩
      · rw [List.map_append (f := T2.o)]
        exact List.perm_append_singleton _ (_ :: _ :: _ :: _ :: _ :: _ :: ps.map T2.o)
      · rcases List.mem_append.mp hp with hp | hp
        · exact fr p hp
        · rw [List.mem_singleton.mp hp]; exact ntp
    · rintro σ L ⟨a', c', ps, ts, o1, o2, o3, rfl, ha', hc4, hc5, pk, hpl, fr, rfl⟩
      have lnp : (ps.map T2.v).length = ps.length := List.length_map _
      have lnt : (ts.map V.int).length = ps.length := (List.length_map _).trans pk.len
      have np0 : 1 ≤ ps.length := by omega
      have np1 : ps.length ≤ 100 := by omega
      refine kb_seq (ks_for bd.own bd.calm (by intro _; rfl) ?_)
      refine ki_range1 (bd.gl rfl) (bd.no (hB _ (by fail "mem"))) rfl ?_
      fail "x"
      rename_i r2 a2 c2 hr3 hr4 ha2 hc6 hc7
      refine ⟨by omega, by omega, fun J2 wk2 => ⟨_, _, _, fun i σ L => ∃ (a' c' : Int) (ls : List T3w) (o1 o2 o3 o4 o5 o6 o7 o8 o9 : Option V), L = (qh, .lst []) :: (ql, .lst (ls.map T3w.v)) :: (qa, .lst (ts.map V.int)) :: (qp, .lst (ps.map T2.v)) :: (f, feedO a' b c') :: (ch, .lst (is.map V.int)) :: (ps.map T2.o ++ ls.map T3w.o) ∧ 0 ≤ a' ∧ c ≤ c' ∧ c' ≤ c + 1100 + 10 * (i : Int) ∧ (∀ l ∈ ls, LookOk bad ps ts l) ∧ ls.length = i ∧ (∀ l ∈ ls, H l.a = none) ∧ σ = [some (.ref f), some (.ref ch), some (.int most), some (.int links), some (.bl bad), some (.ref qp), some (.ref qa), some (.ref ql), some (.ref qh), o1, o2, o3, o4, o5, o6, o7, o8, o9, none, none, none], wk2, ?_, fun _ _ _ _ _ => trivial, ?_, ?_⟩⟩
      · exact ⟨_, _, [], _, _, _, _, _, _, _, _, _, by rw [List.map_nil, List.map_nil, List.append_nil], ha2, by omega, by omega, by simp, rfl, by simp, rfl⟩
      · rintro i x σ L L' hi ⟨a', c', ls, o1, o2, o3, o4, o5, o6, o7, o8, o9, rfl, ha', hc4, hc5, lk, hll, frl, rfl⟩ ⟨rfl, rfl⟩
        have hi1 : i < 200 := by omega
        fail "x"
        rename_i rA aA cA hA1 hA2 haA hcA hcA2 rB aB cB hB1 hB2 haB hcB hcB2 pt1 npt1 rC aC cC hC1 hC2 haC hcC hcC2
        obtain ⟨i1, rfl⟩ := Int.eq_ofNat_of_zero_le hA1
        obtain ⟨p1, hp1⟩ : ∃ p, ps[i1]? = some p := ⟨_, List.getElem?_eq_getElem (by omega)⟩
        obtain ⟨t1, ht1⟩ : ∃ t, ts[i1]? = some t := ⟨_, List.getElem?_eq_getElem (by have := pk.len; omega)⟩
        obtain ⟨m0, em, hm1, hm2⟩ : ∃ m, (if ((ps.map T2.v).length : Int) - 1 < (i1 : Int) + 1 then ((ps.map T2.v).length : Int) - 1 else (i1 : Int) + 1) = m ∧ 0 ≤ m ∧ m < ps.length := ⟨_, rfl, by split <;> omega, by split <;> omega⟩
        rw [em]
        refine ix_I (fun x => 0 ≤ x ∧ x < ps.length) ?_
        fail "ixI"
        rename_i j0 hj0
        obtain ⟨j1, rfl⟩ := Int.eq_ofNat_of_zero_le hj0.1
        obtain ⟨p2, hp2⟩ : ∃ p, ps[j1]? = some p := ⟨_, List.getElem?_eq_getElem (by omega)⟩
        obtain ⟨t2, ht2⟩ : ∃ t, ts[j1]? = some t := ⟨_, List.getElem?_eq_getElem (by have := pk.len; omega)⟩
        have ip1 : At (ps.map T2.o ++ ls.map T3w.o) p1.a (.tup [.int p1.x, .int p1.y]) := .app_l (Alls.self p1 (List.mem_of_getElem? hp1))
        have ip2 : At (ps.map T2.o ++ ls.map T3w.o) p2.a (.tup [.int p2.x, .int p2.y]) := .app_l (Alls.self p2 (List.mem_of_getElem? hp2))
        have g1 := (ok.rng _ (pk.mem p1 (List.mem_of_getElem? hp1)))
        have g2 := (ok.rng _ (pk.mem p2 (List.mem_of_getElem? hp2)))
        have q1 : p1.x ≤ 100000000000000000000000000000000000000000000000000 := g1.2
        have q2 : p2.x ≤ 100000000000000000000000000000000000000000000000000 := g2.2
        have y1 := pk.rid p1 (List.mem_of_getElem? hp1)
        have d1' := pk.dep _ _ _ hp1 ht1
        have d2' := pk.dep _ _ _ hp2 ht2
        fail "x"
        refine ix_lst (v := p1.v) (by fail "at") (atI_nat rfl (by rw [List.getElem?_map, hp1]; rfl)) ?_
        fail "x"
        refine ix_tp (by fail "at") rfl ?_
        fail "x"
        refine ix_lst (v := p2.v) (by fail "at") (atI_nat rfl (by rw [List.getElem?_map, hp2]; rfl)) ?_
        fail "x"
        refine ix_tp (by fail "at") rfl ?_
        fail "x"
        obtain ⟨ms, ems, ms1, ms2⟩ : ∃ m : Int, (if p2.x < p1.x then p2.x else p1.x) = m ∧ 1 ≤ m ∧ m ≤ 100000000000000000000000000000000000000000000000000 := ⟨_, rfl, by split <;> omega, by split <;> omega⟩
        rw [ems]
        refine ix_I (fun x => 0 ≤ x ∧ x ≤ 1000000000) ?_
        fail "ixI"
        rename_i k0 hk0
        fail "x"
        refine ix_lst (v := .int t2) (by fail "at") (atI_nat rfl (by rw [List.getElem?_map, ht2]; rfl)) ?_
        fail "x"
        refine ix_lst (v := .int t1) (by fail "at") (atI_nat rfl (by rw [List.getElem?_map, ht1]; rfl)) ?_
        fail "x"
        refine ix_lst (v := p1.v) (by fail "at") (atI_nat rfl (by rw [List.getElem?_map, hp1]; rfl)) ?_
        fail "x"
        refine ix_tp (by fail "at") rfl ?_
        fail "if"
        rename_i rD aD cD hD1 hD2 haD hcD hcD2 pt2 npt2 rE aE cE hE1 hE2 haE hcE hcE2
        have nn : 0 ≤ (t2 - t1 - p1.y) % ms + ms * k0 := by
          have h1 := Int.emod_nonneg (t2 - t1 - p1.y) (show ms ≠ 0 by omega)
          have h2 := Int.mul_nonneg (show 0 ≤ ms by omega) hk0.1
          omega
        refine kb_cut (fun σ L => ∃ (a2 c2 wv : Int), σ = [some (.ref f), some (.ref ch), some (.int most), some (.int links), some (.bl bad), some (.ref qp), some (.ref qa), some (.ref ql), some (.ref qh), some (.int i), o2, o3, some (.int i1), some (.int j1), some (.int ms), some (.int k0), some (.int (t2 - t1 - p1.y)), some (.int wv), none, none, none] ∧
          Sub ((qh, .lst []) :: (ql, .lst (ls.map T3w.v)) :: (qa, .lst (ts.map V.int)) :: (qp, .lst (ps.map T2.v)) :: (f, feedO a2 b c2) :: (ch, .lst (is.map V.int)) :: (ps.map T2.o ++ ls.map T3w.o)) L ∧ 0 ≤ a2 ∧ c ≤ c2 ∧ c2 ≤ c + 1100 + 10 * (i : Int) + 8 ∧ 0 ≤ wv ∧ (bad = false → wv = (t2 - t1 - p1.y) % ms + ms * k0)) ?_ ?_
        · cases bad with
          | false =>
            fail "x"
            exact kb_nil (.refl _) ⟨_, _, _, rfl, by fail "sub2", haE, by omega, by omega, nn, fun _ => rfl⟩
          | true =>
            fail "x"
            refine pickB_dec (fun h0 => ?_) (fun h0 => ?_)
            · fail "x"
              exact kb_nil (.refl _) ⟨_, _, _, rfl, by fail "sub2", by assumption, by omega, by omega, by assumption, fun e => nomatch e⟩
            · fail "x"
              exact kb_nil (.refl _) ⟨_, _, _, rfl, by fail "sub2", by assumption, by omega, by omega, nn, fun e => nomatch e⟩
        rintro σ L ⟨a7, c7, wv, rfl, sb, ha7, hc8, hc9, wv0, wve⟩
        refine kb_sub sb ?_
        fail "x"
        rename_i tq ntq
        refine ⟨_, _, by fail "spot", .inl nql, by rw [List.length_map, hll]; exact Nat.lt_of_le_of_lt (show i ≤ 1000 by omega) (szl1000 rfl), ?_⟩
        rw [show List.map T3w.v ls ++ [V.ref tq] = (ls ++ [(⟨tq, i1, j1, wv⟩ : T3w)]).map T3w.v by rw [List.map_append]; rfl]
        refine kb_nilP (L' := (qh, .lst []) :: (ql, .lst ((ls ++ [(⟨tq, i1, j1, wv⟩ : T3w)]).map T3w.v)) :: (qa, .lst (ts.map V.int)) :: (qp, .lst (ps.map T2.v)) :: (f, feedO a7 b c7) :: (ch, .lst (is.map V.int)) :: (ps.map T2.o ++ (ls ++ [(⟨tq, i1, j1, wv⟩ : T3w)]).map T3w.o))
          (L'' := (tq, .tup [.int i1, .int j1, .int wv]) :: (qh, .lst []) :: (ql, .lst ((ls ++ [(⟨tq, i1, j1, wv⟩ : T3w)]).map T3w.v)) :: (qa, .lst (ts.map V.int)) :: (qp, .lst (ps.map T2.v)) :: (f, feedO a7 b c7) :: (ch, .lst (is.map V.int)) :: (ps.map T2.o ++ ls.map T3w.o)) ?_ (.refl _) ⟨_, _, ls ++ [⟨tq, i1, j1, wv⟩], _, _, _, _, _, _, _, _, _, rfl, ha7, hc8, by omega, fun l hl => ?_, by rw [List.length_append, hll]; rfl, fun l hl => ?_, rfl⟩
        · rw [List.map_append (f := T3w.o), ← List.append_assoc]
          exact List.perm_append_singleton _ (_ :: _ :: _ :: _ :: _ :: _ :: (ps.map T2.o ++ ls.map T3w.o))
        · rcases List.mem_append.mp hl with hl | hl
          · exact lk l hl
          · rw [List.mem_singleton.mp hl]
            refine ⟨by show (0 : Int) ≤ i1; omega, by show (i1 : Int) < ps.length; omega, by show (0 : Int) ≤ j1; omega, by show (j1 : Int) < ps.length; omega, wv0, fun e p q t u h1 h2 h3 h4 => ?_⟩
            have h1 : ps[i1]? = some p := h1
            have h2 : ps[j1]? = some q := h2
            have h3 : ts[i1]? = some t := h3
            have h4 : ts[j1]? = some u := h4
            rw [hp1] at h1; rw [hp2] at h2; rw [ht1] at h3; rw [ht2] at h4
            cases h1; cases h2; cases h3; cases h4
            rw [ems]
            show (t1 + p1.y + wv - t2) % ms = 0
            rw [wve e]
            exact fits_walk
        · rcases List.mem_append.mp hl with hl | hl
          · exact frl l hl
          · rw [List.mem_singleton.mp hl]; exact ntq
      · rintro σ L ⟨a', c', ls, o1, o2, o3, o4, o5, o6, o7, o8, o9, rfl, ha', hc4, hc5, lk, hll, frl, rfl⟩
        fail "x"
        refine ix_I (fun x => 1 ≤ x ∧ x ≤ 1000000000) ?_
        fail "ixI"
        rename_i pr0 npr0 rF aF cF hF1 hF2 haF hcF hcF2 rt0 hrt
        fail "x"
        refine kb_sub (L' := (qh, .lst []) :: (ql, .lst (ls.map T3w.v)) :: (qa, .lst (ts.map V.int)) :: (qp, .lst (ps.map T2.v)) :: (f, feedO aF b cF) :: (ch, .lst (is.map V.int)) :: (ps.map T2.o ++ ls.map T3w.o)) (.cons _ (.refl _)) ?_
        refine kb_seq (ks_for bd.own bd.calm (by intro _; rfl) ?_)
        refine ki_range1 (bd.gl rfl) (bd.no (hB _ (by fail "mem"))) rfl ?_
        fail "x"
        refine ⟨by omega, by omega, fun J3 wk3 => ⟨_, _, _, fun i σ L => ∃ (a' c' : Int) (hs : List T2) (o4 o10 o11 : Option V), L = (qh, .lst (hs.map T2.v)) :: (ql, .lst (ls.map T3w.v)) :: (qa, .lst (ts.map V.int)) :: (qp, .lst (ps.map T2.v)) :: (f, feedO a' b c') :: (ch, .lst (is.map V.int)) :: (ps.map T2.o ++ (ls.map T3w.o ++ hs.map T2.o)) ∧ 0 ≤ a' ∧ c ≤ c' ∧ c' ≤ c + 4000 + 10 * (i : Int) ∧ HeldOk bad i ps ts hs ∧ (∀ h ∈ hs, H h.a = none) ∧ σ = [some (.ref f), some (.ref ch), some (.int most), some (.int links), some (.bl bad), some (.ref qp), some (.ref qa), some (.ref ql), some (.ref qh), o1, o2, o3, o4, o5, o6, o7, o8, o9, some (.int rt0), o10, o11], wk3, ?_, fun _ _ _ _ _ => trivial, ?_, ?_⟩⟩
        · exact ⟨_, _, [], _, _, _, by rw [List.map_nil, List.map_nil, List.append_nil], haF, by omega, by omega, .nil, by simp, rfl⟩
        · rintro i x σ L L' hi ⟨a', c', hs, o4, o10, o11, rfl, ha', hc4, hc5, hk, frh, rfl⟩ ⟨rfl, rfl⟩
          have hi1 : i < ps.length := by
            have : i < ((ps.map T2.v).length : Int).toNat := hi
            omega
          obtain ⟨p1, hp1⟩ : ∃ p, ps[i]? = some p := ⟨_, List.getElem?_eq_getElem hi1⟩
          obtain ⟨t1, ht1⟩ : ∃ t, ts[i]? = some t := ⟨_, List.getElem?_eq_getElem (by have := pk.len; omega)⟩
          have ip1 : At (ps.map T2.o ++ (ls.map T3w.o ++ hs.map T2.o)) p1.a (.tup [.int p1.x, .int p1.y]) := .app_l (Alls.self p1 (List.mem_of_getElem? hp1))
          have g1 := (ok.rng _ (pk.mem p1 (List.mem_of_getElem? hp1)))
          have q1 : p1.x ≤ 100000000000000000000000000000000000000000000000000 := g1.2
          have d1' := pk.dep _ _ _ hp1 ht1
          have hlen := hk.len
          fail "x"
          refine pickB_dec (fun h0 => ?_) (fun h0 => ?_)
          · fail "x"
            refine ix_lst (v := p1.v) (by fail "at") (atI_nat rfl (by rw [List.getElem?_map, hp1]; rfl)) ?_
            fail "x"
            refine ix_tp (by fail "at") rfl ?_
            fail "ife"
            rename_i rG aG cG hG1 hG2 haG hcG hcG2
            refine kb_cut (fun σ L => ∃ (a2 c2 ow : Int), σ = [some (.ref f), some (.ref ch), some (.int most), some (.int links), some (.bl bad), some (.ref qp), some (.ref qa), some (.ref ql), some (.ref qh), o1, o2, o3, some (.int i), o5, o6, o7, o8, o9, some (.int rt0), some (.int rG), some (.int ow)] ∧
              L = (qh, .lst (hs.map T2.v)) :: (ql, .lst (ls.map T3w.v)) :: (qa, .lst (ts.map V.int)) :: (qp, .lst (ps.map T2.v)) :: (f, feedO a2 b c2) :: (ch, .lst (is.map V.int)) :: (ps.map T2.o ++ (ls.map T3w.o ++ hs.map T2.o)) ∧ 0 ≤ a2 ∧ c ≤ c2 ∧ c2 ≤ c + 4000 + 10 * (i : Int) + 5 ∧ 0 ≤ ow ∧ ow < p1.x ∧ (bad = false → ow = t1)) ?_ ?_
            · cases bad with
              | false =>
                fail "x"
                refine ix_lst (v := .int t1) (by fail "at") (atI_nat rfl (by rw [List.getElem?_map, ht1]; rfl)) ?_
                fail "x"
                exact ⟨_, _, _, rfl, rfl, by assumption, by omega, by omega, d1'.1, d1'.2, fun _ => rfl⟩
              | true =>
                fail "x"
                refine pickB_dec (fun h5 => ?_) (fun h5 => ?_)
                · fail "x"
                  exact ⟨_, _, _, rfl, rfl, by assumption, by omega, by omega, hG1, hG2, fun e => nomatch e⟩
                · fail "x"
                  refine ix_lst (v := .int t1) (by fail "at") (atI_nat rfl (by rw [List.getElem?_map, ht1]; rfl)) ?_
                  fail "x"
                  exact ⟨_, _, _, rfl, rfl, by assumption, by omega, by omega, d1'.1, d1'.2, fun e => nomatch e⟩
            rintro σ L ⟨a7, c7, ow, rfl, rfl, ha7, hc8, hc9, ow0, ow1, owe⟩
            fail "x"
            refine ke_ins rfl rfl rfl rfl rfl rfl ?_
            have lnh : (hs.map T2.v).length = hs.length := List.length_map _
            fail "x"
            rename_i m0 a8 c8 hm0 hm1 ha8 hc10 hc11 th nth
            refine ⟨m0, _, _, rfl, by fail "spot", .inl nqh, by rw [lnh]; exact Nat.lt_of_le_of_lt (show hs.length ≤ 1000 by omega) (szl1000 rfl), hm0, by omega, ?_⟩
            rw [show (hs.map T2.v).take m0.toNat ++ [V.ref th] ++ (hs.map T2.v).drop m0.toNat = (hs.take m0.toNat ++ [(⟨th, i, ow⟩ : T2)] ++ hs.drop m0.toNat).map T2.v by rw [List.map_append, List.map_append, List.map_take, List.map_drop]; rfl]
            have pm := (ins_perm (⟨th, i, ow⟩ : T2) m0.toNat hs).map T2.o
            refine kb_nil' (kb_nilP (L' := (qh, .lst ((hs.take m0.toNat ++ [(⟨th, i, ow⟩ : T2)] ++ hs.drop m0.toNat).map T2.v)) :: (ql, .lst (ls.map T3w.v)) :: (qa, .lst (ts.map V.int)) :: (qp, .lst (ps.map T2.v)) :: (f, feedO a8 b c8) :: (ch, .lst (is.map V.int)) :: (ps.map T2.o ++ (ls.map T3w.o ++ (hs.take m0.toNat ++ [(⟨th, i, ow⟩ : T2)] ++ hs.drop m0.toNat).map T2.o)))
              (L'' := (th, .tup [.int i, .int ow]) :: (qh, .lst ((hs.take m0.toNat ++ [(⟨th, i, ow⟩ : T2)] ++ hs.drop m0.toNat).map T2.v)) :: (ql, .lst (ls.map T3w.v)) :: (qa, .lst (ts.map V.int)) :: (qp, .lst (ps.map T2.v)) :: (f, feedO a8 b c8) :: (ch, .lst (is.map V.int)) :: (ps.map T2.o ++ (ls.map T3w.o ++ hs.map T2.o))) ?_ (.refl _) ⟨_, _, _, _, _, _, rfl, ha8, by omega, by omega, hk.ins rfl (fun p hp => ?_) (fun e => ?_), fun h hh => ?_, rfl⟩)
            · exact perm_ins (X := [_, _, _, _, _, _]) pm
            · rw [hp1] at hp; cases hp; exact ⟨ow0, ow1⟩
            · rw [owe e]; exact ht1
            · rcases List.mem_cons.mp ((ins_perm (⟨th, i, ow⟩ : T2) m0.toNat hs).mem_iff.mp hh) with e | hh
              · rw [e]; exact nth
              · exact frh h hh
          · fail "x"
            exact kb_nil' (kb_nil (.refl _) ⟨_, _, hs, _, _, _, rfl, by assumption, by omega, by omega, hk.up, frh, rfl⟩)
        · rintro σ L ⟨a', c', hs, o4, o10, o11, rfl, ha', hc4, hc5, hk, frh, rfl⟩
          fail "x"
          rename_i R nR
          have en : ((ps.map T2.v).length : Int).toNat = ps.length := by rw [lnp]; rfl
          rw [en] at hk hc5
          refine fun H' z => k R qp ql qh qa a' c' ps ls hs ts nR ha' hc4 (by omega) pk np0 (by omega) (by omega) lk hk H' ⟨fun b u e ne => z.fr b u e ne, z.get (by fail "at"), z.newsS (.cons₂ _ (.cons₂ _ (.cons₂ _ (.cons₂ _ (.cons₂ _ (.cons _ (.cons _ (.refl _)))))))) fun q hq => ?_⟩
          rcases List.mem_cons.mp hq with e | hq
          · rw [e]; exact nR
          rcases List.mem_cons.mp hq with e | hq
          · rw [e]; exact nqh
          rcases List.mem_cons.mp hq with e | hq
          · rw [e]; exact nql
          rcases List.mem_cons.mp hq with e | hq
          · rw [e]; exact nqa
          rcases List.mem_cons.mp hq with e | hq
          · rw [e]; exact nqp
          rcases List.mem_append.mp hq with hq | hq
          · obtain ⟨y, hy, rfl⟩ := List.mem_map.mp hq; exact fr y hy
          rcases List.mem_append.mp hq with hq | hq
          · obtain ⟨y, hy, rfl⟩ := List.mem_map.mp hq; exact frl y hy
          · obtain ⟨y, hy, rfl⟩ := List.mem_map.mp hq; exact frh y hy)
end

local macro_rules | `(tactic| fail "nd") => `(tactic| ((with_reducible refine Body.dg (o := .Name "steps" _) (i := .Name _ _) ?bd ?hs ?_); (case bd => assumption); (case hs => (intro _ _; rfl))))
local macro_rules | `(tactic| fail "x") => `(tactic| repeat first | fail "nd" | fail "1")
section
variable {P : Program} {w : World} {K : PySem.W.Frag} {mg : Str → Option Value} {base : Heap} {c : Cp}
/-- lines[i][1] + walk -/
def spShift : Sp := fun vs H Q _ => ∃ (l a : Addr) (ps : List T2) (x y z : Int) (p : T2), vs = [.ref l, .ref a] ∧ H l = some (.lst (ps.map T2.v)) ∧ H p.a = some p.o.2 ∧ H a = some (.tup [.int x, .int y, .int z]) ∧ 0 ≤ x ∧ ps[x.toNat]? = some p ∧ RetP H Q (.int (p.y + z)) []
theorem rs_shift {H0 : Hp} {M : Addr → Prop} {L : LL} {Q : V → LL → Prop} {E : XK} {l a : Addr} {x y z : Int} {ps : List T2} {p : T2} (il : At L l (.lst (ps.map T2.v))) (ip : At L p.a p.o.2) (ia : At L a (.tup [.int x, .int y, .int z])) (h0 : 0 ≤ x) (hp : ps[x.toNat]? = some p) (h : Q (.int (p.y + z)) L) : rs H0 M spShift E [.ref l, .ref a] L Q :=
  fun H w => ⟨l, a, ps, x, y, z, p, rfl, w.get il, w.get ip, w.get ia, h0, hp, w.p0 h⟩
theorem ok_shift_of (T : Tx P K mg c) : DefT P w K mg base CX0 1 "shift_of" spShift :=
  T.shift_of.ok bi_shift_of fun f fd F => fk_body F sc_shift_of lo_shift_of pl_shift_of (by (conv => lhs; whnf)) (fun vs H Q E h => by obtain ⟨l, a, ps, x, y, z, p, rfl, _⟩ := h; rfl) (fun X bd ns H vs Q E h => by
    obtain ⟨l, a, ps, x, y, z, p, rfl, hl, hpa, ha, h0, hp, k⟩ := h
    have nm := bd.nm
    have hB := T.blt
    obtain ⟨i, rfl⟩ := Int.eq_ofNat_of_zero_le h0
    with_reducible refine wb_go (M := fun _ => False) (L := [(l, .lst (ps.map T2.v)), (a, .tup [.int i, .int y, .int z]), p.o]) (σ := [some (.ref l), some (.ref a), none, none, none]) ?e (.any ?h1) ?_
    (case e => rfl)
    (case h1 =>
      intro q hq
      simp only [List.mem_cons, List.not_mem_nil, or_false] at hq
      rcases hq with rfl | rfl | rfl
      · exact hl
      · exact ha
      · exact hpa)
    fail "x"
    refine ix_lst (v := p.v) (by fail "at") (atI_nat rfl (by rw [List.getElem?_map, (show ps[i]? = some p from hp)]; rfl)) ?_
    fail "x"
    exact fun H' z => k.e0 z)
/-- a step: (line, shift, (wish, forward)) -/
structure St3 where
  a : Addr
  j : Int
  s : Int
  t : Addr
  k : Int
  b : Bool
abbrev St3.v (r : St3) : V := .ref r.a
abbrev St3.o (r : St3) : Addr × HO := (r.a, .tup [.int r.j, .int r.s, .ref r.t])
abbrev St3.o2 (r : St3) : Addr × HO := (r.t, .tup [.int r.k, .bl r.b])
/-- a line's row: its steps -/
structure Rw where
  i : Int
  a : Addr
  xs : List St3
abbrev Rw.kv (r : Rw) : Key × V := (.inl r.i, .ref r.a)
abbrev Rw.o (r : Rw) : Addr × HO := (r.a, .lst (r.xs.map St3.v))
def hwOf (ps : List T2) (i : Nat) : Int := (ps[i]?.map (·.x)).getD 0
def keysN (ps : List T2) (m : Int) (n : Nat) : List Int := ((List.range n).filter fun i => decide (m ≤ hwOf ps i)).map Int.ofNat
theorem keysN_succ (ps : List T2) (m : Int) (n : Nat) : keysN ps m (n + 1) = keysN ps m n ++ if m ≤ hwOf ps n then [(n : Int)] else [] := by
  unfold keysN
  rw [List.range_succ, List.filter_append, List.map_append]
  by_cases h : m ≤ hwOf ps n <;> simp [h]
theorem keysN_lt {ps : List T2} {m : Int} {n : Nat} {j : Int} (h : j ∈ keysN ps m n) : j < n := by
  obtain ⟨i, hi, rfl⟩ := List.mem_map.mp h
  exact Int.ofNat_lt.mpr (List.mem_range.mp (List.mem_filter.mp hi).1)
theorem putK_new {kvs : List (Key × V)} {k : Key} {v : V} (h : ∀ q ∈ kvs, q.1 ≠ k) : putK kvs k v = kvs ++ [(k, v)] := by
  unfold putK
  rw [if_neg]
  intro e
  obtain ⟨q, hq, e⟩ := List.any_eq_true.mp e
  exact h q hq (of_decide_eq_true e)
abbrev St3.data (s : St3) : Int × Int × Int × Bool := (s.j, s.s, s.k, s.b)
def shOf (ps : List T2) (w : T3w) : Int := (ps[w.x.toNat]?.map (·.y)).getD 0 + w.z
def stepW (ps : List T2) (m i : Int) (k : Nat) (w : T3w) : List (Int × Int × Int × Bool) :=
  if m ≤ hwOf ps w.x.toNat ∧ m ≤ hwOf ps w.y.toNat then (if w.x = i then [(w.y, shOf ps w, (k : Int), true)] else []) ++ (if w.y = i then [(w.x, -shOf ps w, (k : Int), false)] else []) else []
def stepsN (ps : List T2) (m : Int) (ls : List T3w) (i : Int) (n : Nat) : List (Int × Int × Int × Bool) := (List.range n).flatMap fun k => match ls[k]? with
  | some w => stepW ps m i k w
  | none => []
theorem stepsN_succ {ps : List T2} {m : Int} {ls : List T3w} {i : Int} {n : Nat} {w : T3w} (h : ls[n]? = some w) : stepsN ps m ls i (n + 1) = stepsN ps m ls i n ++ stepW ps m i n w := by
  unfold stepsN
  rw [List.range_succ, List.flatMap_append, List.flatMap_singleton, h]
theorem stepsN_len {ps : List T2} {m : Int} {ls : List T3w} {i : Int} {n : Nat} : (stepsN ps m ls i n).length ≤ 2 * n := by
  unfold stepsN
  induction n with
  | zero => exact Nat.le_refl _
  | succ n ih =>
    rw [List.range_succ, List.flatMap_append, List.flatMap_singleton, List.length_append]
    have : (match ls[n]? with | some w => stepW ps m i n w | none => []).length ≤ 2 := by
      split
      · unfold stepW
        split
        · split <;> split <;> simp
        · simp
      · simp
    omega
theorem mem_keysN {ps : List T2} {m j : Int} (h0 : 0 ≤ j) (h1 : j < ps.length) : j ∈ keysN ps m ps.length ↔ m ≤ hwOf ps j.toNat := by
  obtain ⟨i, rfl⟩ := Int.eq_ofNat_of_zero_le h0
  unfold keysN
  rw [List.mem_map]
  constructor
  · rintro ⟨k, hk, e⟩
    have e : k = i := Int.ofNat.inj e
    subst e
    exact of_decide_eq_true (List.mem_filter.mp hk).2
  · intro h
    exact ⟨i, List.mem_filter.mpr ⟨List.mem_range.mpr (by omega), decide_eq_true h⟩, rfl⟩
theorem valV_rows {rows : List Rw} {j : Int} : (valV (rows.map Rw.kv) (.inl j)).isSome = decide (j ∈ rows.map (·.i)) := by
  rw [← valV_any, List.any_map, Bool.eq_iff_iff, List.any_eq_true, decide_eq_true_eq, List.mem_map]
  constructor
  · rintro ⟨r, hr, e⟩
    exact ⟨r, hr, Sum.inl.inj (of_decide_eq_true e)⟩
  · rintro ⟨r, hr, e⟩
    exact ⟨r, hr, decide_eq_true (congrArg Sum.inl e)⟩
theorem keysN_nodup {ps : List T2} {m : Int} {n : Nat} : (keysN ps m n).Nodup := by
  induction n with
  | zero => exact List.nodup_nil
  | succ n ih =>
    rw [keysN_succ]
    split
    · refine List.nodup_append.mpr ⟨ih, by simp, fun a ha b hb e => ?_⟩
      rw [List.mem_singleton.mp hb] at e
      have := keysN_lt ha
      omega
    · rw [List.append_nil]; exact ih
theorem row_at {j : Int} : ∀ {rows : List Rw}, j ∈ rows.map (·.i) → ∃ r1 r r2, rows = r1 ++ r :: r2 ∧ r.i = j ∧ valV (rows.map Rw.kv) (.inl j) = some (.ref r.a)
  | [], h => (nomatch h)
  | r :: rows, h => by
    by_cases e : r.i = j
    · exact ⟨[], r, rows, rfl, e, valV_pos (congrArg Sum.inl e)⟩
    · rcases List.mem_cons.mp h with h | h
      · exact absurd h.symm e
      · obtain ⟨r1, x, r2, e1, e2, e3⟩ := row_at h
        exact ⟨r :: r1, x, r2, by rw [e1]; rfl, e2, (valV_neg fun z => e (Sum.inl.inj z)).trans e3⟩
theorem rows_app {H : Hp} {r1 r2 : List Rw} {r : Rw} {s : St3} {F : Int → List (Int × Int × Int × Bool)} (nd : ((r1 ++ r :: r2).map (·.i)).Nodup) (h : ∀ x ∈ r1 ++ r :: r2, x.xs.map St3.data = F x.i ∧ H x.a = none) :
    ∀ x ∈ r1 ++ (⟨r.i, r.a, r.xs ++ [s]⟩ : Rw) :: r2, x.xs.map St3.data = F x.i ++ (if x.i = r.i then [s.data] else []) ∧ H x.a = none := by
  rw [List.map_append, List.map_cons] at nd
  have nd2 := List.nodup_append.mp nd
  have nd3 := List.nodup_cons.mp nd2.2.1
  intro x hx
  rcases List.mem_append.mp hx with q | q
  · have ne : x.i ≠ r.i := nd2.2.2 x.i (List.mem_map.mpr ⟨x, q, rfl⟩) r.i (by simp)
    rw [if_neg ne, List.append_nil]
    exact h x (List.mem_append_left _ q)
  · rcases List.mem_cons.mp q with rfl | q
    · obtain ⟨a, b⟩ := h r (by simp)
      rw [if_pos rfl, List.map_append, a]
      exact ⟨rfl, b⟩
    · have ne : x.i ≠ r.i := fun e => nd3.1 (by rw [← e]; exact List.mem_map.mpr ⟨x, q, rfl⟩)
      rw [if_neg ne, List.append_nil]
      exact h x (by simp [q])
theorem alls_app {T : LL} {r1 r2 R : List Rw} {r : Rw} {s : St3} (h : ∀ x ∈ r1 ++ r :: r2, Alls St3.o T x.xs ∧ Alls St3.o2 T x.xs) (eR : R = r1 ++ (⟨r.i, r.a, r.xs ++ [s]⟩ : Rw) :: r2) :
    ∀ x ∈ R, Alls St3.o (s.o :: s.o2 :: T) x.xs ∧ Alls St3.o2 (s.o :: s.o2 :: T) x.xs := by
  subst eR
  have up : ∀ x ∈ r1 ++ r :: r2, Alls St3.o (s.o :: s.o2 :: T) x.xs ∧ Alls St3.o2 (s.o :: s.o2 :: T) x.xs := fun x hx => ⟨fun y hy => .there (.there ((h x hx).1 y hy)), fun y hy => .there (.there ((h x hx).2 y hy))⟩
  intro x hx
  rcases List.mem_append.mp hx with q | q
  · exact up x (List.mem_append_left _ q)
  · rcases List.mem_cons.mp q with rfl | q
    · obtain ⟨a, b⟩ := up r (by simp)
      refine ⟨fun y hy => ?_, fun y hy => ?_⟩
      · rcases List.mem_append.mp hy with w | w
        · exact a y w
        · rw [List.mem_singleton.mp w]; exact .here
      · rcases List.mem_append.mp hy with w | w
        · exact b y w
        · rw [List.mem_singleton.mp w]; exact .there .here
    · exact up x (by simp [q])
theorem Rw.o_app {i : Int} {a : Addr} {xs : List St3} {s : St3} : Rw.o ⟨i, a, xs ++ [s]⟩ = (a, .lst (xs.map St3.v ++ [s.v])) := by
  show (a, HO.lst ((xs ++ [s]).map St3.v)) = _
  rw [List.map_append]
  rfl
theorem Spot.app_r2 {A L : LL} {a : Addr} {o : HO} {g : HO → LL} (h : Spot L a o g) : Spot (A ++ L) a o (fun o' => A ++ g o') := by
  induction A with
  | nil => exact h
  | cons q A ih => exact .there ih
/-- a dict: for each line with such a headway its steps -/
def spSteps : Sp := fun vs H Q _ => ∃ (l wl : Addr) (ps : List T2) (ls : List T3w) (m : Int), vs = [.int m, .ref l, .ref wl] ∧ H l = some (.lst (ps.map T2.v)) ∧ (∀ p ∈ ps, H p.a = some p.o.2) ∧ H wl = some (.lst (ls.map T3w.v)) ∧ (∀ p ∈ ls, H p.a = some p.o.2) ∧ ps.length ≤ 40 ∧ ls.length ≤ 80 ∧ (∀ p ∈ ls, 0 ≤ p.x ∧ p.x < ps.length ∧ 0 ≤ p.y ∧ p.y < ps.length ∧ 0 ≤ p.z) ∧
  ∀ D (rows : List Rw) (T : LL), H D = none → (∀ r ∈ rows, H r.a = none) → (∀ q ∈ T, H q.1 = none) → rows.map (·.i) = keysN ps m ps.length → (∀ r ∈ rows, r.xs.map St3.data = stepsN ps m ls r.i ls.length) → (∀ r ∈ rows, Alls St3.o T r.xs ∧ Alls St3.o2 T r.xs) → RetP H Q (.ref D) ((D, .dK (rows.map Rw.kv)) :: (rows.map Rw.o ++ T))
theorem ok_steps_of (T : Tx P K mg c) : DefT P w K mg base CX0 2 "steps_of" spSteps :=
  T.steps_of.ok bi_steps_of fun f fd F => fk_body F sc_steps_of lo_steps_of pl_steps_of (by (conv => lhs; whnf)) (fun vs H Q E h => by obtain ⟨l, wl, ps, ls, m, rfl, _⟩ := h; rfl) (fun X bd ns H vs Q E h => by
    obtain ⟨l, wl, ps, ls, m, rfl, hl, hps, hwl, hls, n1, n2, hk, k⟩ := h
    have nm := bd.nm
    have hB := T.blt
    have d1 := ok_shift_of (P := P) (w := w) (base := base) T
    have lnx : (ps.map T2.v).length = ps.length := List.length_map _
    obtain ⟨L0, eL⟩ : ∃ L0, L0 = (l, HO.lst (ps.map T2.v)) :: (wl, .lst (ls.map T3w.v)) :: (ps.map T2.o ++ ls.map T3w.o) := ⟨_, rfl⟩
    have il : At L0 l (.lst (ps.map T2.v)) := by rw [eL]; exact .here
    have iw : At L0 wl (.lst (ls.map T3w.v)) := by rw [eL]; exact .there .here
    have al : Alls T2.o L0 ps := fun x hx => by rw [eL]; exact .there (.there ((Alls.self (h := T2.o) (xs := ps)).app_l x hx))
    have al2 : Alls T3w.o L0 ls := fun x hx => by rw [eL]; exact .there (.there ((Alls.self (h := T3w.o) (xs := ls)).app_r x hx))
    with_reducible refine wb_go (M := fun _ => False) (L := L0) (σ := [some (.int m), some (.ref l), some (.ref wl), none, none, none, none, none, none, none]) ?e (.any ?h1) ?_
    (case e => rfl)
    (case h1 =>
      intro q hq
      rw [eL] at hq
      rcases List.mem_cons.mp hq with e | hq
      · rw [e]; exact hl
      rcases List.mem_cons.mp hq with e | hq
      · rw [e]; exact hwl
      rcases List.mem_append.mp hq with hq | hq
      · obtain ⟨x, hx, rfl⟩ := List.mem_map.mp hq
        exact hps x hx
      · obtain ⟨x, hx, rfl⟩ := List.mem_map.mp hq
        exact hls x hx)
    fail "x"
    refine kb_seq (Body.setDc (own := [("i", 3)]) bd ns (by decide +kernel) (by decide +kernel) rfl rfl (by decide +kernel) ⟨rfl, by decide +kernel, by decide +kernel, by decide +kernel, by decide +kernel⟩ (by intro _; rfl) ?_)
    refine Body.kdc bd ns [("i", 3)] ["i", "lines", "modulus"] ["i"] (by decide +kernel) (by decide +kernel) (by decide +kernel) ?_
    refine ki_range1 (bd.gl rfl) (bd.no (hB _ (by fail "mem"))) rfl ?_
    fail "x"
    rw [lnx]
    refine ⟨by omega, by omega, fun J wk D nD => ⟨_, _, _, fun i L => ∃ rows : List Rw, rows.map (·.i) = keysN ps m i ∧ (∀ r ∈ rows, r.xs = [] ∧ H r.a = none) ∧ L = (D, .dK (rows.map Rw.kv)) :: (L0 ++ rows.map Rw.o), wk, ⟨[], rfl, (fun r hr => nomatch hr), by simp⟩, fun _ _ _ _ => trivial, ?_, ?_⟩⟩
    · rintro i x L L' hi ⟨rows, hr, hn, rfl⟩ ⟨rfl, rfl⟩ B bB nB
      have hi2 : i < ps.length := by omega
      obtain ⟨p, hp⟩ : ∃ p, ps[i]? = some p := ⟨_, List.getElem?_eq_getElem hi2⟩
      have hw : hwOf ps i = p.x := by unfold hwOf; rw [hp]; rfl
      rw [show wipe [some (V.int m), some (V.ref l), some (V.ref wl), none, none, none, none, none, none, none] _ = [some (V.int m), some (V.ref l), some (V.ref wl), none, none, none, none, none, none, none] from rfl]
      have nm1 := bB.nm
      fail "x"
      intro B2 bB2
      have nm2 := bB2.nm
      refine kf_one ?_
      fail "x"
      refine ix_lst (v := p.v) (.there (.app_l il)) (atI_nat rfl (by rw [List.getElem?_map, hp]; rfl)) ?_
      have ix : At (L0 ++ rows.map Rw.o) p.a (.tup [.int p.x, .int p.y]) := .app_l (al p (List.mem_of_getElem? hp))
      fail "x"
      refine ix_tp (p := p.a) (xs := [.int p.x, .int p.y]) (.there ix) (v := .int p.x) (i := 0) (by rfl) ?_
      fail "x"
      by_cases hm : m ≤ p.x
      · rw [if_pos (by simpa using hm)]
        intro B3 bB3
        have nm3 := bB3.nm
        fail "x"
        intro B4 bB4
        have nm4 := bB4.nm
        fail "x"
        rename_i q nq
        have nw : ∀ kv ∈ rows.map Rw.kv, kv.1 ≠ (.inl (i : Int) : Key) := fun kv hkv e => by
          obtain ⟨r, hr1, rfl⟩ := List.mem_map.mp hkv
          have e : r.i = (i : Int) := Sum.inl.inj e
          have : r.i ∈ keysN ps m i := by rw [← hr]; exact List.mem_map.mpr ⟨r, hr1, rfl⟩
          have := keysN_lt this
          omega
        have hlr : rows.length ≤ i := by
          have := congrArg List.length hr
          rw [List.length_map] at this
          rw [this]
          unfold keysN
          rw [List.length_map]
          exact Nat.le_trans (List.length_filter_le _ _) (by rw [List.length_range]; exact Nat.le_refl _)
        refine ⟨_, _, _, rfl, .there .here, by rw [List.length_map]; exact Nat.lt_of_le_of_lt (show rows.length ≤ 1000 by omega) (szl1000 rfl), (D, .dK ((rows ++ [(⟨i, q, []⟩ : Rw)]).map Rw.kv)) :: (L0 ++ (rows ++ [(⟨i, q, []⟩ : Rw)]).map Rw.o), _, ?_, .refl _, rows ++ [(⟨i, q, []⟩ : Rw)], ?_, ?_, rfl⟩
        · rw [putK_new nw, List.map_append, List.map_append]
          refine .trans (.cons _ ?_) (.swap _ _ _)
          rw [← List.append_assoc]
          exact List.perm_append_comm
        · rw [List.map_append, hr, keysN_succ, hw, if_pos hm]
          rfl
        · intro r hr2
          rcases List.mem_append.mp hr2 with h | h
          · exact hn r h
          · rw [List.mem_singleton.mp h]
            exact ⟨rfl, nq⟩
      · rw [if_neg (by simpa using hm)]
        refine ⟨_, .refl _, rows, ?_, hn, rfl⟩
        rw [keysN_succ, hw, if_neg hm, List.append_nil, hr]
    · rintro L ⟨rows, hr, hn, rfl⟩
      fail "x"
      refine kb_subP (L' := (D, .dK (rows.map Rw.kv)) :: (rows.map Rw.o ++ (([] : LL) ++ L0))) (L'' := _) (.cons _ List.perm_append_comm) (.refl _) ?_
      refine kb_seq (ks_for bd.own bd.calm (by intro _; rfl) ?_)
      refine ki_enum (bd.gl rfl) (bd.no (hB _ (by fail "mem"))) rfl ?_
      fail "x"
      have lnw : (ls.map T3w.v).length = ls.length := List.length_map _
      refine ⟨wl, _, rfl, .there (.app_r iw), fun J2 wk2 => ⟨_, _, _, fun i σ L => ∃ (rows : List Rw) (T : LL) (t3 t5 t6 t7 t8 t9 : Option V), rows.map (·.i) = keysN ps m ps.length ∧ (∀ r ∈ rows, r.xs.map St3.data = stepsN ps m ls r.i i ∧ H r.a = none) ∧ (∀ r ∈ rows, Alls St3.o T r.xs ∧ Alls St3.o2 T r.xs) ∧ (∀ q ∈ T, H q.1 = none) ∧
        L = (D, .dK (rows.map Rw.kv)) :: (rows.map Rw.o ++ (T ++ L0)) ∧ σ = [some (.int m), some (.ref l), some (.ref wl), t3, some (.ref D), t5, t6, t7, t8, t9], wk2, ?_, ?_, ?_, ?_⟩⟩
      · refine ⟨rows, [], _, _, _, _, _, _, by rw [hr]; rfl, fun r hr1 => ⟨?_, (hn r hr1).2⟩, fun r hr1 => ?_, (fun q hq => nomatch hq), rfl, rfl⟩
        · rw [(hn r hr1).1]
          rfl
        · rw [(hn r hr1).1]
          exact ⟨fun y hy => (nomatch hy), fun y hy => (nomatch hy)⟩
      · rintro i σ L - ⟨rows, T, t3, t5, t6, t7, t8, t9, hr2, hx, hal, hT, rfl, rfl⟩
        exact .there (.app_r (.app_r iw))
      · rintro i x σ L L' hi ⟨rows, T, t3, t5, t6, t7, t8, t9, hr2, hx, hal, hT, rfl, rfl⟩ ⟨Tq, y, rfl, nT, hy, rfl⟩
        rw [List.getElem?_map] at hy
        obtain ⟨u, hu, rfl⟩ := Option.map_eq_some_iff.mp hy
        have hm := List.mem_of_getElem? hu
        obtain ⟨u1, u2, u3, u4, u5⟩ := hk u hm
        have iu : At ((Tq, HO.tup [.int i, .ref u.a]) :: (D, .dK (rows.map Rw.kv)) :: (rows.map Rw.o ++ (T ++ L0))) u.a (.tup [.int u.x, .int u.y, .int u.z]) := .there (.there (.app_r (.app_r (al2 u hm))))
        have stay : ¬ (m ≤ hwOf ps u.x.toNat ∧ m ≤ hwOf ps u.y.toNat) → ∀ r ∈ rows, r.xs.map St3.data = stepsN ps m ls r.i (i + 1) ∧ H r.a = none := fun hno r hr3 => by
          rw [stepsN_succ hu, stepW, if_neg hno, List.append_nil]
          exact hx r hr3
        fail "x"
        refine bd.din (.there .here) ?_
        rw [valV_rows, hr2, decide_eq_decide.mpr (mem_keysN u1 u2)]
        fail "x"
        refine pickB_dec (fun h1 => ?_) (fun h1 => ?_)
        · fail "x"
          refine bd.din (.there .here) ?_
          rw [valV_rows, hr2, decide_eq_decide.mpr (mem_keysN u3 u4)]
          fail "x"
          refine pickB_dec (fun h2 => ?_) (fun h2 => ?_)
          · fail "x"
            obtain ⟨px, hpx⟩ : ∃ p, ps[u.x.toNat]? = some p := ⟨_, List.getElem?_eq_getElem (by omega)⟩
            have hsh : shOf ps u = px.y + u.z := by unfold shOf; rw [hpx]; rfl
            refine rs_shift (ps := ps) (p := px) (.there (.there (.app_r (.app_r il)))) (.there (.there (.app_r (.app_r (al px (List.mem_of_getElem? hpx)))))) iu u1 hpx ?_
            rw [← hsh]
            fail "1"
            fail "1"
            fail "1"
            refine Body.dg bd (fun _ _ => rfl) ?_
            fail "x"
            obtain ⟨r1, r, r2, er, eri, ev⟩ := row_at (rows := rows) (j := u.x) (by rw [hr2]; exact (mem_keysN u1 u2).mpr h1)
            refine ⟨D, _, _, _, rfl, rfl, .there .here, ev, r.a, r.xs.map St3.v, rfl, .there (.there (.app_l (by rw [er]; exact .of_mem (by simp)))), ?_⟩
            fail "x"
            rename_i p1 np1 p2 np2
            subst er
            have nd : ((r1 ++ r :: r2).map (·.i)).Nodup := by rw [hr2]; exact keysN_nodup
            have rx := hx r (by simp)
            have hlx : r.xs.length ≤ 2 * i := by
              have := congrArg List.length rx.1
              rw [List.length_map] at this
              rw [this]
              exact stepsN_len
            rw [show ((r1 ++ r :: r2).map Rw.o ++ (T ++ L0)) = r1.map Rw.o ++ (r.o :: (r2.map Rw.o ++ (T ++ L0))) by simp]
            refine ⟨_, _, .there (.there (.there (.there (Spot.app_r2 .here)))), .inl rx.2, by rw [List.length_map]; exact Nat.lt_of_le_of_lt (show r.xs.length ≤ 1000 by omega) (szl1000 rfl), ?_⟩
            obtain ⟨s, es⟩ : ∃ s : St3, s = ⟨p2, u.y, shOf ps u, p1, i, true⟩ := ⟨_, rfl⟩
            have hx2 := rows_app (H := H) (F := fun j => stepsN ps m ls j i) (s := s) nd hx
            obtain ⟨R, eR⟩ : ∃ R : List Rw, R = r1 ++ (⟨r.i, r.a, r.xs ++ [s]⟩ : Rw) :: r2 := ⟨_, rfl⟩
            rw [← eR] at hx2
            have eRi : R.map (·.i) = keysN ps m ps.length := by rw [← hr2, eR]; simp
            have eRk : R.map Rw.kv = (r1 ++ r :: r2).map Rw.kv := by rw [eR]; simp
            have hal2 : ∀ x ∈ R, Alls St3.o (s.o :: s.o2 :: T) x.xs ∧ Alls St3.o2 (s.o :: s.o2 :: T) x.xs := alls_app (fun x hx3 => hal x hx3) eR
            rw [← eRk]
            refine kb_subP (L' := (D, .dK (R.map Rw.kv)) :: (R.map Rw.o ++ ((s.o :: s.o2 :: T) ++ L0))) (L'' := s.o :: s.o2 :: (D, .dK (R.map Rw.kv)) :: (R.map Rw.o ++ (T ++ L0))) ?_ ?_ ?_
            · exact (List.Perm.cons _ (List.perm_middle.trans (.cons _ List.perm_middle))).trans ((List.Perm.swap _ _ _).trans (.cons _ (.swap _ _ _)))
            · rw [eR, es]
              refine .cons₂ _ (.cons₂ _ (.cons _ (.cons₂ _ ?_)))
              simp
              rw [Rw.o_app]
              exact .refl _
            obtain ⟨TT, eT⟩ : ∃ TT : LL, TT = s.o :: s.o2 :: T := ⟨_, rfl⟩
            rw [← eT] at hal2 ⊢
            have nd2 : (R.map (·.i)).Nodup := by rw [eRi]; exact keysN_nodup
            fail "1"
            fail "1"
            refine Body.dg bd (fun _ _ => rfl) ?_
            fail "x"
            obtain ⟨q1, q, q2, er, eqi, ev2⟩ := row_at (rows := R) (j := u.y) (by rw [eRi]; exact (mem_keysN u3 u4).mpr h2)
            refine ⟨D, _, _, _, rfl, rfl, .here, ev2, q.a, q.xs.map St3.v, rfl, .there (.app_l (by rw [er]; exact .of_mem (by simp))), ?_⟩
            fail "x"
            rename_i p3 np3 p4 np4
            have qx := hx2 q (by rw [er]; simp)
            have hlq : q.xs.length ≤ 2 * i + 1 := by
              have := congrArg List.length qx.1
              rw [List.length_map, List.length_append] at this
              have h5 : (stepsN ps m ls q.i i).length ≤ 2 * i := stepsN_len
              have h6 : (if q.i = r.i then [s.data] else []).length ≤ 1 := by split <;> simp
              omega
            rw [show (R.map Rw.o ++ (TT ++ L0)) = q1.map Rw.o ++ (q.o :: (q2.map Rw.o ++ (TT ++ L0))) by rw [er]; simp]
            refine ⟨_, _, .there (.there (.there (Spot.app_r2 .here))), .inl qx.2, by rw [List.length_map]; exact Nat.lt_of_le_of_lt (show q.xs.length ≤ 1000 by omega) (szl1000 rfl), ?_⟩
            obtain ⟨s2, es2⟩ : ∃ s : St3, s = ⟨p4, u.x, -shOf ps u, p3, i, false⟩ := ⟨_, rfl⟩
            rw [er] at nd2 hx2 hal2
            have hx3 := rows_app (H := H) (F := fun j => stepsN ps m ls j i ++ if j = r.i then [s.data] else []) (s := s2) nd2 hx2
            obtain ⟨S, eS⟩ : ∃ S : List Rw, S = q1 ++ (⟨q.i, q.a, q.xs ++ [s2]⟩ : Rw) :: q2 := ⟨_, rfl⟩
            rw [← eS] at hx3
            have eSi : S.map (·.i) = keysN ps m ps.length := by rw [← eRi, er, eS]; simp
            have eSk : S.map Rw.kv = R.map Rw.kv := by rw [eS, er]; simp
            have hT3 : ∀ z ∈ s2.o :: s2.o2 :: TT, H z.1 = none := fun z hz => by
              rw [es2, eT, es] at hz
              simp only [List.mem_cons] at hz
              rcases hz with rfl | rfl | rfl | rfl | hz
              · exact np4
              · exact np3
              · exact np2
              · exact np1
              · exact hT z hz
            have hal3 := alls_app (s := s2) hal2 eS
            rw [← eSk]
            refine kb_nil (.refl _) (kb_nilP (L' := (D, .dK (S.map Rw.kv)) :: (S.map Rw.o ++ ((s2.o :: s2.o2 :: TT) ++ L0))) (L'' := s2.o :: s2.o2 :: (D, .dK (S.map Rw.kv)) :: (S.map Rw.o ++ (TT ++ L0))) ?_ ?_ ⟨S, s2.o :: s2.o2 :: TT, _, _, _, _, _, _, eSi, ?_, hal3, hT3, rfl, rfl⟩)
            · exact (List.Perm.cons _ (List.perm_middle.trans (.cons _ List.perm_middle))).trans ((List.Perm.swap _ _ _).trans (.cons _ (.swap _ _ _)))
            · rw [eS, es2]
              refine .cons₂ _ (.cons₂ _ (.cons₂ _ ?_))
              simp
              rw [Rw.o_app]
              exact .refl _
            · intro x hx4
              obtain ⟨a1, a2⟩ := hx3 x hx4
              refine ⟨?_, a2⟩
              rw [stepsN_succ hu, stepW, if_pos (show m ≤ hwOf ps u.x.toNat ∧ m ≤ hwOf ps u.y.toNat from ⟨h1, h2⟩), a1, eri, eqi, es, es2, List.append_assoc]
              by_cases e1 : x.i = u.x <;> by_cases e2 : x.i = u.y
              · rw [if_pos e1, if_pos e2, if_pos e1.symm, if_pos e2.symm]
              · rw [if_pos e1, if_neg e2, if_pos e1.symm, if_neg (fun e => e2 e.symm)]
              · rw [if_neg e1, if_pos e2, if_neg (fun e => e1 e.symm), if_pos e2.symm]
              · rw [if_neg e1, if_neg e2, if_neg (fun e => e1 e.symm), if_neg (fun e => e2 e.symm)]
          · exact kb_nil (.refl _) (kb_nil (.cons _ (.refl _)) ⟨rows, T, _, _, _, _, _, _, hr2, stay (fun h => h2 h.2), hal, hT, rfl, rfl⟩)
        · fail "x"
          exact kb_nil (.refl _) (kb_nil (.cons _ (.refl _)) ⟨rows, T, _, _, _, _, _, _, hr2, stay (fun h => h1 h.1), hal, hT, rfl, rfl⟩)
      · rintro σ L ⟨rows, T, t3, t5, t6, t7, t8, t9, hr2, hx, hal, hT, rfl, rfl⟩
        fail "x"
        intro H' z
        refine k D rows T nD (fun r hr => (hx r hr).2) hT hr2 (fun r hr => by rw [(hx r hr).1, lnw]) hal H' z.ext0 (z.newsS (.cons₂ _ (.append (.refl _) (List.sublist_append_left _ _))) fun q hq => ?_)
        rcases List.mem_cons.mp hq with e | hq
        · rw [e]; exact nD
        rcases List.mem_append.mp hq with hq | hq
        · obtain ⟨r, hr, rfl⟩ := List.mem_map.mp hq
          exact (hx r hr).2
        · exact hT q hq)
theorem rs_steps {H0 : Hp} {M : Addr → Prop} {L : LL} {Q : V → LL → Prop} {E : XK} {l wl : Addr} {ps : List T2} {ls : List T3w} {m : Int} (il : At L l (.lst (ps.map T2.v))) (al : Alls T2.o L ps) (iw : At L wl (.lst (ls.map T3w.v))) (al2 : Alls T3w.o L ls) (n1 : ps.length ≤ 40) (n2 : ls.length ≤ 80) (hk : ∀ p ∈ ls, 0 ≤ p.x ∧ p.x < ps.length ∧ 0 ≤ p.y ∧ p.y < ps.length ∧ 0 ≤ p.z)
    (h : ∀ D (rows : List Rw) (T : LL), H0 D = none → (∀ r ∈ rows, H0 r.a = none) → (∀ q ∈ T, H0 q.1 = none) → rows.map (·.i) = keysN ps m ps.length → (∀ r ∈ rows, r.xs.map St3.data = stepsN ps m ls r.i ls.length) → (∀ r ∈ rows, Alls St3.o T r.xs ∧ Alls St3.o2 T r.xs) → Q (.ref D) ((D, .dK (rows.map Rw.kv)) :: (rows.map Rw.o ++ T) ++ L)) : rs H0 M spSteps E [.int m, .ref l, .ref wl] L Q :=
  fun H z => ⟨l, wl, ps, ls, m, rfl, z.get il, al.get z, z.get iw, al2.get z, n1, n2, hk, fun D rows T nD nr nT e1 e2 e3 => z.pp (h D rows T (z.fresh nD) (fun r hr => z.fresh (nr r hr)) (fun q hq => z.fresh (nT q hq)) e1 e2 e3)⟩
end

local macro_rules | `(tactic| fail "x") => `(tactic| repeat fail "1")
section
variable {P : Program} {w : World} {K : PySem.W.Frag} {mg : Str → Option Value} {base : Heap} {c : Cp}
/-- a level -/
abbrev levelO (C : Addr) (dx : Addr) (m : Int) (R1 R2 R3 : Addr) : HO := .ins C dx [("modulus", .int m), ("roots", .ref R1), ("offsets", .ref R2), ("ways", .ref R3)]
theorem lk_mod {m : Int} {R1 R2 R3 : Addr} : ([("modulus", .int m), ("roots", .ref R1), ("offsets", .ref R2), ("ways", .ref R3)] : List (Str × V)).lookup ("modulus" : Str) = some (.int m) := by rw [List.lookup_cons, beq_self_eq_true]
theorem lk_roots {m : Int} {R1 R2 R3 : Addr} : ([("modulus", .int m), ("roots", .ref R1), ("offsets", .ref R2), ("ways", .ref R3)] : List (Str × V)).lookup ("roots" : Str) = some (.ref R1) := by
  rw [List.lookup_cons, show (("roots" : Str) == ("modulus" : Str)) = false from by decide +kernel, List.lookup_cons, beq_self_eq_true]
theorem lk_offs {m : Int} {R1 R2 R3 : Addr} : ([("modulus", .int m), ("roots", .ref R1), ("offsets", .ref R2), ("ways", .ref R3)] : List (Str × V)).lookup ("offsets" : Str) = some (.ref R2) := by
  rw [List.lookup_cons, show (("offsets" : Str) == ("modulus" : Str)) = false from by decide +kernel, List.lookup_cons, show (("offsets" : Str) == ("roots" : Str)) = false from by decide +kernel, List.lookup_cons, beq_self_eq_true]
theorem lk_ways {m : Int} {R1 R2 R3 : Addr} : ([("modulus", .int m), ("roots", .ref R1), ("offsets", .ref R2), ("ways", .ref R3)] : List (Str × V)).lookup ("ways" : Str) = some (.ref R3) := by
  rw [List.lookup_cons, show (("ways" : Str) == ("modulus" : Str)) = false from by decide +kernel, List.lookup_cons, show (("ways" : Str) == ("roots" : Str)) = false from by decide +kernel, List.lookup_cons, show (("ways" : Str) == ("offsets" : Str)) = false from by decide +kernel, List.lookup_cons, beq_self_eq_true]
def spPlace (c : Cp) : Sp := fun vs H Q _ => ∃ (a : Addr) (dx : Addr) (m x r o : Int) (R1 R2 R3 y : Addr) (k1 k2 k3 : List (Key × V)), vs = [.ref a, .int x, .int r, .int o, .ref y] ∧ H a = some (levelO c.l dx m R1 R2 R3) ∧ H R1 = some (.dK k1) ∧ H R2 = some (.dK k2) ∧ H R3 = some (.dK k3) ∧ [R1, R2, R3].Nodup ∧ k1.length ≤ 1000 ∧ k2.length ≤ 1000 ∧ k3.length ≤ 1000 ∧
  RetM H Q .non [(R1, .dK (putK k1 (.inl x) (.int r))), (R2, .dK (putK k2 (.inl x) (.int o))), (R3, .dK (putK k3 (.inl x) (.ref y)))] []
theorem ok_place (T : Tx P K mg c) : MethT P w K mg base CX0 1 (Is1 c.l) "_place" (spPlace c) :=
  T.Level_place.ok (fun C h => by rw [h]; exact T.cls_l) bi_Level_place fun f fd F => fk_body F sc_Level_place lo_Level_place pl_Level_place (by (conv => lhs; whnf)) (fun vs H Q E h => by obtain ⟨a, dx, m, x, r, o, R1, R2, R3, y, k1, k2, k3, rfl, _⟩ := h; rfl) (fun X bd ns H vs Q E h => by
    obtain ⟨a, dx, m, x, r, o, R1, R2, R3, y, k1, k2, k3, rfl, ha, h1, h2, h3, nd, n1, n2, n3, k⟩ := h
    have nm := bd.nm
    have hB := T.blt
    have cl : Cls X.K c.l := by rw [bd.K]; exact T.cls_l
    have z0 := Hs.anyMs (cs := [(R1, .dK k1), (R2, .dK k2), (R3, .dK k3)]) (L := [(a, levelO c.l dx m R1 R2 R3)]) (H := H) nd (by simp [h1, h2, h3]) (by simp [ha]) (by
      intro q hq
      rw [List.mem_singleton.mp hq]
      simp only [List.map_cons, List.map_nil, List.mem_cons, List.not_mem_nil, or_false]
      rintro (rfl | rfl | rfl)
      · rw [ha] at h1; cases h1
      · rw [ha] at h2; cases h2
      · rw [ha] at h3; cases h3)
    with_reducible refine wb_go (L := _) (σ := [some (.ref a), some (.int x), some (.int r), some (.int o), some (.ref y)]) ?e z0 ?_
    (case e => rfl)
    rw [show ([(R1, HO.dK k1), (R2, .dK k2), (R3, .dK k3)] ++ [(a, levelO c.l dx m R1 R2 R3)] : LL) = [(R1, .dK k1), (R2, .dK k2), (R3, .dK k3), (a, levelO c.l dx m R1 R2 R3)] from rfl]
    have i1 : R1 ∈ [(R1, HO.dK k1), (R2, HO.dK k2), (R3, HO.dK k3)].map (·.1) := by simp
    have i2 : R2 ∈ [(R1, HO.dK k1), (R2, HO.dK k2), (R3, HO.dK k3)].map (·.1) := by simp
    have i3 : R3 ∈ [(R1, HO.dK k1), (R2, HO.dK k2), (R3, HO.dK k3)].map (·.1) := by simp
    fail "1"
    fail "1"
    refine Body.dput bd (by intro _; rfl) ?_
    fail "x"
    refine ⟨a, c.l, dx, _, _, rfl, .there (.there (.there .here)), cl, by rw [bd.K]; exact T.na_lroots, lk_roots, ?_⟩
    fail "x"
    refine ⟨R1, k1, x, _, rfl, rfl, .here, .inr i1, Nat.lt_of_le_of_lt n1 (szl1000 rfl), ?_⟩
    fail "1"
    fail "1"
    refine Body.dput bd (by intro _; rfl) ?_
    fail "x"
    refine ⟨a, c.l, dx, _, _, rfl, .there (.there (.there .here)), cl, by rw [bd.K]; exact T.na_loffsets, lk_offs, ?_⟩
    fail "x"
    refine ⟨R2, k2, x, _, rfl, rfl, .there .here, .inr i2, Nat.lt_of_le_of_lt n2 (szl1000 rfl), ?_⟩
    fail "1"
    fail "1"
    refine Body.dput bd (by intro _; rfl) ?_
    fail "x"
    refine ⟨a, c.l, dx, _, _, rfl, .there (.there (.there .here)), cl, by rw [bd.K]; exact T.na_lways, lk_ways, ?_⟩
    fail "x"
    refine ⟨R3, k3, x, _, rfl, rfl, .there (.there .here), .inr i3, Nat.lt_of_le_of_lt n3 (szl1000 rfl), ?_⟩
    fail "x"
    refine kb_nil (.refl _) fun H' z => ?_
    refine k H' (Hs.chgM0 (cs := [(R1, .dK (putK k1 (.inl x) (.int r))), (R2, .dK (putK k2 (.inl x) (.int o))), (R3, .dK (putK k3 (.inl x) (.ref y)))]) z (fun q hq => ?_) .nil)
    simp only [List.mem_cons, List.not_mem_nil, or_false] at hq
    rcases hq with rfl | rfl | rfl
    · exact .here
    · exact .there .here
    · exact .there (.there .here))
theorem rs_place {H0 : Hp} {M : Addr → Prop} {L1 : LL} {Q : V → LL → Prop} {E : XK} {a dx R1 R2 R3 y : Addr} {m x r o : Int} {k1 k2 k3 : List (Key × V)} (ia : At L1 a (levelO c.l dx m R1 R2 R3)) (c1 : H0 R1 = none ∨ M R1) (c2 : H0 R2 = none ∨ M R2) (c3 : H0 R3 = none ∨ M R3) (n1 : k1.length ≤ 1000) (n2 : k2.length ≤ 1000) (n3 : k3.length ≤ 1000)
    (h : Q .non ((R1, .dK (putK k1 (.inl x) (.int r))) :: (R2, .dK (putK k2 (.inl x) (.int o))) :: (R3, .dK (putK k3 (.inl x) (.ref y))) :: L1)) : rs H0 M (spPlace c) E [.ref a, .int x, .int r, .int o, .ref y] ((R1, .dK k1) :: (R2, .dK k2) :: (R3, .dK k3) :: L1) Q := fun H z => by
  have nd := z.nd
  rw [List.map_cons, List.map_cons, List.map_cons, List.pairwise_cons, List.pairwise_cons, List.pairwise_cons] at nd
  have ap : ∀ {p q : Addr}, (H0 p = none ∨ M p) → (p ≠ q ∨ (H0 p ≠ none ∧ ¬ M p)) → p ≠ q := fun c w => w.elim id fun w => (c.elim w.1 w.2).elim
  have e12 := ap c1 (nd.1 R2 (by simp))
  have e13 := ap c1 (nd.1 R3 (by simp))
  have e23 := ap c2 (nd.2.1 R3 (by simp))
  refine ⟨a, dx, m, x, r, o, R1, R2, R3, y, k1, k2, k3, rfl, z.get (.there (.there (.there ia))), z.get .here, z.get (.there .here), z.get (.there (.there .here)), by simp [e12, e13, e23], n1, n2, n3, ?_⟩
  refine Hs.mm (cs0 := [(R1, .dK k1), (R2, .dK k2), (R3, .dK k3)]) (L := L1) z rfl (fun q hq => ?_) h
  simp only [List.map_cons, List.map_nil, List.mem_cons, List.not_mem_nil, or_false] at hq
  rcases hq with rfl | rfl | rfl
  · exact c1
  · exact c2
  · exact c3
end

local macro_rules | `(tactic| fail "x") => `(tactic| repeat fail "1")
section
variable {P : Program} {w : World} {K : PySem.W.Frag} {mg : Str → Option Value} {base : Heap} {c : Cp}
/-- a line that is placed: root, offset, the list of its way, the way's steps -/
structure Pw where
  j : Int
  r : Int
  o : Int
  a : Addr
  ws : List (Addr × Int × Bool)
abbrev Pw.kr (p : Pw) : Key × V := (.inl p.j, .int p.r)
abbrev Pw.ko (p : Pw) : Key × V := (.inl p.j, .int p.o)
abbrev Pw.kw (p : Pw) : Key × V := (.inl p.j, .ref p.a)
abbrev Pw.ob (p : Pw) : Addr × HO := (p.a, .lst (p.ws.map fun s => .ref s.1))
/-- a way from x to j, its sum o -/
inductive WayOk (F : Int → List (Int × Int × Int × Bool)) (x : Int) : List (Int × Bool) → Int → Int → Prop
  | nil : WayOk F x [] x 0
  | snoc {ws : List (Int × Bool)} {i o j s k : Int} {b : Bool} (h : WayOk F x ws i o) (m : (j, s, k, b) ∈ F i) : WayOk F x (ws ++ [(k, b)]) j (o + s)
theorem put_r {ps : List Pw} {p : Pw} (h : p.j ∉ ps.map (·.j)) : putK (ps.map Pw.kr) (.inl p.j) (.int p.r) = (ps ++ [p]).map Pw.kr := by
  rw [putK_new, List.map_append]
  · rfl
  · intro q hq e
    obtain ⟨y, hy, rfl⟩ := List.mem_map.mp hq
    exact h (List.mem_map.mpr ⟨y, hy, Sum.inl.inj e⟩)
theorem put_o {ps : List Pw} {p : Pw} (h : p.j ∉ ps.map (·.j)) : putK (ps.map Pw.ko) (.inl p.j) (.int p.o) = (ps ++ [p]).map Pw.ko := by
  rw [putK_new, List.map_append]
  · rfl
  · intro q hq e
    obtain ⟨y, hy, rfl⟩ := List.mem_map.mp hq
    exact h (List.mem_map.mpr ⟨y, hy, Sum.inl.inj e⟩)
theorem put_w {ps : List Pw} {p : Pw} (h : p.j ∉ ps.map (·.j)) : putK (ps.map Pw.kw) (.inl p.j) (.ref p.a) = (ps ++ [p]).map Pw.kw := by
  rw [putK_new, List.map_append]
  · rfl
  · intro q hq e
    obtain ⟨y, hy, rfl⟩ := List.mem_map.mp hq
    exact h (List.mem_map.mpr ⟨y, hy, Sum.inl.inj e⟩)
theorem pw_in {ps : List Pw} {j : Int} : (valV (ps.map Pw.kr) (.inl j)).isSome = decide (j ∈ ps.map (·.j)) := by
  rw [← valV_any, List.any_map, Bool.eq_iff_iff, List.any_eq_true, decide_eq_true_eq, List.mem_map]
  constructor
  · rintro ⟨r, hr, e⟩
    exact ⟨r, hr, Sum.inl.inj (of_decide_eq_true e)⟩
  · rintro ⟨r, hr, e⟩
    exact ⟨r, hr, decide_eq_true (congrArg Sum.inl e)⟩
theorem pw_at {j : Int} : ∀ {ps : List Pw}, j ∈ ps.map (·.j) → ∃ p ∈ ps, p.j = j ∧ valV (ps.map Pw.kr) (.inl j) = some (.int p.r) ∧ valV (ps.map Pw.ko) (.inl j) = some (.int p.o) ∧ valV (ps.map Pw.kw) (.inl j) = some (.ref p.a)
  | [], h => (nomatch h)
  | p :: ps, h => by
    by_cases e : p.j = j
    · exact ⟨p, by simp, e, valV_pos (congrArg Sum.inl e), valV_pos (congrArg Sum.inl e), valV_pos (congrArg Sum.inl e)⟩
    · rcases List.mem_cons.mp h with h | h
      · exact absurd h.symm e
      · obtain ⟨q, hq, e1, e2, e3, e4⟩ := pw_at h
        exact ⟨q, List.mem_cons_of_mem _ hq, e1, (valV_neg fun z => e (Sum.inl.inj z)).trans e2, (valV_neg fun z => e (Sum.inl.inj z)).trans e3, (valV_neg fun z => e (Sum.inl.inj z)).trans e4⟩
end

section
variable {K : PySem.W.Frag} {L : LL} {a C dx R1 R2 R3 : Addr} {m : Int} {B : V → Prop}
theorem lfld_mod (ia : At L a (levelO C dx m R1 R2 R3)) (hc : Cls K C) (n : NoAttr K C "modulus") (q : B (.int m)) : ∃ a' C' dx' fs v, V.ref a = .ref a' ∧ At L a' (.ins C' dx' fs) ∧ Cls K C' ∧ NoAttr K C' "modulus" ∧ fs.lookup ("modulus" : Str) = some v ∧ B v := ⟨a, C, dx, _, _, rfl, ia, hc, n, lk_mod, q⟩
theorem lfld_roots (ia : At L a (levelO C dx m R1 R2 R3)) (hc : Cls K C) (n : NoAttr K C "roots") (q : B (.ref R1)) : ∃ a' C' dx' fs v, V.ref a = .ref a' ∧ At L a' (.ins C' dx' fs) ∧ Cls K C' ∧ NoAttr K C' "roots" ∧ fs.lookup ("roots" : Str) = some v ∧ B v := ⟨a, C, dx, _, _, rfl, ia, hc, n, lk_roots, q⟩
theorem lfld_offs (ia : At L a (levelO C dx m R1 R2 R3)) (hc : Cls K C) (n : NoAttr K C "offsets") (q : B (.ref R2)) : ∃ a' C' dx' fs v, V.ref a = .ref a' ∧ At L a' (.ins C' dx' fs) ∧ Cls K C' ∧ NoAttr K C' "offsets" ∧ fs.lookup ("offsets" : Str) = some v ∧ B v := ⟨a, C, dx, _, _, rfl, ia, hc, n, lk_offs, q⟩
theorem lfld_ways (ia : At L a (levelO C dx m R1 R2 R3)) (hc : Cls K C) (n : NoAttr K C "ways") (q : B (.ref R3)) : ∃ a' C' dx' fs v, V.ref a = .ref a' ∧ At L a' (.ins C' dx' fs) ∧ Cls K C' ∧ NoAttr K C' "ways" ∧ fs.lookup ("ways" : Str) = some v ∧ B v := ⟨a, C, dx, _, _, rfl, ia, hc, n, lk_ways, q⟩
theorem lrecv {f : Str} {B : Addr → Prop} (ia : At L a (levelO C dx m R1 R2 R3)) (e1 : (f == ("modulus" : Str)) = false) (e2 : (f == ("roots" : Str)) = false) (e3 : (f == ("offsets" : Str)) = false) (e4 : (f == ("ways" : Str)) = false) (q : B a) :
    ∃ a' C' dx' fs, V.ref a = .ref a' ∧ At L a' (.ins C' dx' fs) ∧ Is1 C C' ∧ fs.lookup f = none ∧ B a' := ⟨a, C, dx, _, rfl, ia, rfl, by rw [List.lookup_cons, e1, List.lookup_cons, e2, List.lookup_cons, e3, List.lookup_cons, e4]; rfl, q⟩
end

local macro_rules | `(tactic| fail "lvh") => `(tactic| first
  | ((with_reducible show ∃ _, _); (with_reducible apply lfld_roots); (fail "at"); (with_reducible assumption); (with_reducible assumption))
  | ((with_reducible show ∃ _, _); (with_reducible apply lfld_offs); (fail "at"); (with_reducible assumption); (with_reducible assumption))
  | ((with_reducible show ∃ _, _); (with_reducible apply lfld_ways); (fail "at"); (with_reducible assumption); (with_reducible assumption))
  | ((with_reducible show ∃ _, _); (with_reducible apply lfld_mod); (fail "at"); (with_reducible assumption); (with_reducible assumption))
  | ((with_reducible show ∃ _, _); (with_reducible apply lrecv); (fail "at"); (decide +kernel); (decide +kernel); (decide +kernel); (decide +kernel))
  | ((with_reducible refine' Body.dg (o := .Attribute _ _ _) (i := .Name _ _) ?bd ?hs ?h); (case bd => with_reducible assumption); (case hs => (intro _ _; rfl)))
  | ((with_reducible refine' Body.dg (o := .Name "steps" _) (i := .Name _ _) ?bd ?hs ?h); (case bd => with_reducible assumption); (case hs => (intro _ _; rfl))))
local macro_rules | `(tactic| fail "x") => `(tactic| repeat first | fail "lvh" | fail "1")
section
variable {P : Program} {w : World} {K : PySem.W.Frag} {mg : Str → Option Value} {base : Heap} {c : Cp}
open PySem.Spec PyProof.Rows in
theorem kt_truL {X : Cx} {H0 : Hp} {M : Addr → Prop} {e : Expr} {σ : L2.St} {L : LL} {QT : Bool → LL → Prop} (he : ∀ whole, isTrue e X.env whole = (do let v ← whole; standAt e.pos; holding [v] (truthy v)))
    (h : ke X H0 M e σ L fun x L1 => ∃ a xs, x = .ref a ∧ At L1 a (.lst xs) ∧ QT (!xs.isEmpty) L1) : kt X H0 M e σ L QT := fun H z =>
  wt_of (pt_truth pe_we he) (we_mono (h H z) fun x H1 ⟨L1, z1, a, xs, ex, ia, q⟩ => ⟨!xs.isEmpty, by rw [ex]; exact .inl ⟨xs, z1.sq ia, rfl⟩, L1, z1, q⟩)
theorem rs_subP {H0 : Hp} {M : Addr → Prop} {sp : Sp} {E : XK} {vs : List V} {L L' L'' : LL} {Q : V → LL → Prop} (p : L'.Perm L'') (s : Sub L'' L) (h : rs H0 M sp E vs L' Q) : rs H0 M sp E vs L Q := fun H z => h H ((z.sub s).perm p)
/-- new are the lines that a root x has taken in -/
structure Grown (H : Hp) (F : Int → List (Int × Int × Int × Bool)) (x : Int) (pws new : List Pw) (rows : List Rw) : Prop where
  nd : ((pws ++ new).map (·.j)).Nodup
  sub : ∀ p ∈ new, p.j ∈ rows.map (·.i)
  rt : ∀ p ∈ new, p.r = x
  way : ∀ p ∈ new, WayOk F x (p.ws.map (·.2)) p.j p.o
  fr : ∀ p ∈ new, H p.a = none
  st : ∀ p ∈ new, ∀ u ∈ p.ws, ∃ r ∈ rows, ∃ s ∈ r.xs, u = (s.t, s.k, s.b)
  wl : ∀ p ∈ new, p.ws.length < new.length
theorem Grown.one {H : Hp} {F : Int → List (Int × Int × Int × Bool)} {x : Int} {pws : List Pw} {rows : List Rw} {q : Addr} (nd : (pws.map (·.j)).Nodup) (hx : x ∉ pws.map (·.j)) (hr : x ∈ rows.map (·.i)) (nq : H q = none) : Grown H F x pws [⟨x, x, 0, q, []⟩] rows := by
  refine ⟨?_, ?_, ?_, ?_, ?_, ?_, fun p hp => by rw [List.mem_singleton.mp hp]; exact Nat.one_pos⟩
  · rw [List.map_append]
    refine List.nodup_append.mpr ⟨nd, by simp, fun a ha b hb e => ?_⟩
    have e2 : b = x := List.mem_singleton.mp hb
    exact hx (by rw [← e2, ← e]; exact ha)
  · intro p hp; rw [List.mem_singleton.mp hp]; exact hr
  · intro p hp; rw [List.mem_singleton.mp hp]
  · intro p hp; rw [List.mem_singleton.mp hp]; exact .nil
  · intro p hp; rw [List.mem_singleton.mp hp]; exact nq
  · intro p hp u hu; rw [List.mem_singleton.mp hp] at hu; cases hu
theorem Grown.snoc {H : Hp} {F : Int → List (Int × Int × Int × Bool)} {x : Int} {pws new : List Pw} {rows : List Rw} {q : Addr} {p : Pw} {r : Rw} {s : St3} (g : Grown H F x pws new rows) (hp : p ∈ new) (hr : r ∈ rows) (ei : r.i = p.j) (ef : r.xs.map St3.data = F r.i) (hs : s ∈ r.xs) (hj : s.j ∈ rows.map (·.i)) (hn : s.j ∉ (pws ++ new).map (·.j)) (nq : H q = none) :
    Grown H F x pws (new ++ [⟨s.j, x, p.o + s.s, q, p.ws ++ [(s.t, s.k, s.b)]⟩]) rows := by
  refine ⟨?_, fun y hy => ?_, fun y hy => ?_, fun y hy => ?_, fun y hy => ?_, fun y hy u hu => ?_, fun y hy => ?_⟩
  · rw [← List.append_assoc, List.map_append]
    refine List.nodup_append.mpr ⟨g.nd, by simp, fun a ha b hb e => ?_⟩
    have e2 : b = s.j := List.mem_singleton.mp hb
    exact hn (by rw [← e2, ← e]; exact ha)
  · rcases List.mem_append.mp hy with hy | hy
    · exact g.sub y hy
    · rw [List.mem_singleton.mp hy]; exact hj
  · rcases List.mem_append.mp hy with hy | hy
    · exact g.rt y hy
    · rw [List.mem_singleton.mp hy]
  · rcases List.mem_append.mp hy with hy | hy
    · exact g.way y hy
    · rw [List.mem_singleton.mp hy]
      rw [List.map_append]
      refine .snoc (s := s.s) (g.way p hp) ?_
      rw [← ei, ← ef]
      exact List.mem_map.mpr ⟨s, hs, rfl⟩
  · rcases List.mem_append.mp hy with hy | hy
    · exact g.fr y hy
    · rw [List.mem_singleton.mp hy]; exact nq
  · rcases List.mem_append.mp hy with hy | hy
    · exact g.st y hy u hu
    · rw [List.mem_singleton.mp hy] at hu
      rcases List.mem_append.mp hu with hu | hu
      · exact g.st p hp u hu
      · exact ⟨r, hr, s, hs, List.mem_singleton.mp hu⟩
  · rw [List.length_append]
    rcases List.mem_append.mp hy with hy | hy
    · exact Nat.lt_succ_of_lt (g.wl y hy)
    · rw [List.mem_singleton.mp hy]
      show (p.ws ++ [(s.t, s.k, s.b)]).length < _
      rw [List.length_append]
      exact Nat.succ_lt_succ (g.wl p hp)
theorem Grown.len {H : Hp} {F : Int → List (Int × Int × Int × Bool)} {x : Int} {pws new : List Pw} {rows : List Rw} (g : Grown H F x pws new rows) (hp : ∀ p ∈ pws, p.j ∈ rows.map (·.i)) : pws.length + new.length ≤ rows.length := by
  have h := List.Nodup.length_le_of_subset g.nd (l₂ := rows.map (·.i)) fun y hy => by
    obtain ⟨p, h, rfl⟩ := List.mem_map.mp hy
    rcases List.mem_append.mp h with h | h
    · exact hp p h
    · exact g.sub p h
  rwa [List.length_map, List.length_append, List.length_map] at h
theorem perm4 {a b c d : Addr × HO} {l : LL} : (a :: b :: c :: d :: l).Perm (d :: a :: b :: c :: l) := List.perm_middle (l₁ := [a, b, c])
abbrev growL (R1 R2 R3 W : Addr) (pws new : List Pw) (wait : List Int) (LB : LL) : LL := (R1, .dK ((pws ++ new).map Pw.kr)) :: (R2, .dK ((pws ++ new).map Pw.ko)) :: (R3, .dK ((pws ++ new).map Pw.kw)) :: (W, .lst (wait.map V.int)) :: (new.map Pw.ob ++ LB)
def spGrow (c : Cp) : Sp := fun vs H Q _ => ∃ (a dx : Addr) (m x : Int) (R1 R2 R3 D : Addr) (pws : List Pw) (rows : List Rw) (F : Int → List (Int × Int × Int × Bool)), vs = [.ref a, .int x, .ref D] ∧ H a = some (levelO c.l dx m R1 R2 R3) ∧ H R1 = some (.dK (pws.map Pw.kr)) ∧ H R2 = some (.dK (pws.map Pw.ko)) ∧ H R3 = some (.dK (pws.map Pw.kw)) ∧ [R1, R2, R3].Nodup ∧ H D = some (.dK (rows.map Rw.kv)) ∧ D ∉ [R1, R2, R3] ∧
  (∀ r ∈ rows, H r.a = some r.o.2 ∧ r.xs.map St3.data = F r.i ∧ r.xs.length ≤ 160 ∧ ∀ s ∈ r.xs, H s.a = some s.o.2 ∧ s.j ∈ rows.map (·.i)) ∧ rows.length ≤ 40 ∧ (pws.map (·.j)).Nodup ∧ (∀ p ∈ pws, p.j ∈ rows.map (·.i)) ∧ x ∈ rows.map (·.i) ∧ x ∉ pws.map (·.j) ∧
  ∀ new : List Pw, Grown H F x pws new rows → (∀ p ∈ new, ∀ s ∈ F p.j, s.1 ∈ (pws ++ new).map (·.j)) → (∃ p ∈ new, p.j = x ∧ p.o = 0 ∧ p.ws = []) →
    RetM H Q .non [(R1, .dK ((pws ++ new).map Pw.kr)), (R2, .dK ((pws ++ new).map Pw.ko)), (R3, .dK ((pws ++ new).map Pw.kw))] (new.map Pw.ob)
theorem ok_grow (T : Tx P K mg c) : MethT P w K mg base CX0 2 (Is1 c.l) "_grow" (spGrow c) :=
  T.Level_grow.ok (fun C h => by rw [h]; exact T.cls_l) bi_Level_grow fun f fd F => fk_body F sc_Level_grow lo_Level_grow pl_Level_grow (by (conv => lhs; whnf)) (fun vs H Q E h => by obtain ⟨a, dx, m, x, R1, R2, R3, D, pws, rows, F, rfl, _⟩ := h; rfl) (fun X bd ns H vs Q E h => by
    obtain ⟨a, dx, m, x, R1, R2, R3, D, pws, rows, F, rfl, ha, h1, h2, h3, nd, hD, nD, hrow, hlr, hpn, hps, hx, hxn, k⟩ := h
    have nm := bd.nm
    have hB := T.blt
    have cl : Cls X.K c.l := by rw [bd.K]; exact T.cls_l
    have na1 : NoAttr X.K c.l "roots" := by rw [bd.K]; exact T.na_lroots
    have na2 : NoAttr X.K c.l "offsets" := by rw [bd.K]; exact T.na_loffsets
    have na3 : NoAttr X.K c.l "ways" := by rw [bd.K]; exact T.na_lways
    have dp := ok_place (P := P) (w := w) (base := base) T
    have hlp : pws.length ≤ rows.length := by
      have h := List.Nodup.length_le_of_subset hpn (l₂ := rows.map (·.i)) fun y hy => by
        obtain ⟨p, h, rfl⟩ := List.mem_map.mp hy
        exact hps p h
      rwa [List.length_map, List.length_map] at h
    obtain ⟨LB, hA, hDL, hR, hS, hLB⟩ : ∃ LB : LL, At LB a (levelO c.l dx m R1 R2 R3) ∧ At LB D (.dK (rows.map Rw.kv)) ∧ (∀ r ∈ rows, At LB r.a r.o.2) ∧ (∀ r ∈ rows, ∀ s ∈ r.xs, At LB s.a s.o.2) ∧ ∀ q ∈ LB, H q.1 = some q.2 ∧ q.1 ∉ [R1, R2, R3] := by
      refine ⟨(a, levelO c.l dx m R1 R2 R3) :: (D, .dK (rows.map Rw.kv)) :: (rows.map Rw.o ++ rows.flatMap fun r => r.xs.map St3.o), .here, .there .here, fun r hr => .there (.there (.app_l (.of_mem (List.mem_map.mpr ⟨r, hr, rfl⟩)))), fun r hr s hs => .there (.there (.app_r (.of_mem (List.mem_flatMap.mpr ⟨r, hr, List.mem_map.mpr ⟨s, hs, rfl⟩⟩)))), fun q hq => ?_⟩
      have no : ∀ {b : Addr} {o : HO}, H b = some o → (∀ kvs, o ≠ .dK kvs) → b ∉ [R1, R2, R3] := fun {b o} e z hb => by
        simp only [List.mem_cons, List.not_mem_nil, or_false] at hb
        rcases hb with rfl | rfl | rfl
        · rw [h1] at e; exact z _ (Option.some.inj e).symm
        · rw [h2] at e; exact z _ (Option.some.inj e).symm
        · rw [h3] at e; exact z _ (Option.some.inj e).symm
      rcases List.mem_cons.mp hq with rfl | hq
      · exact ⟨ha, no ha (fun _ e => nomatch e)⟩
      rcases List.mem_cons.mp hq with rfl | hq
      · exact ⟨hD, nD⟩
      rcases List.mem_append.mp hq with hq | hq
      · obtain ⟨r, hr, rfl⟩ := List.mem_map.mp hq
        exact ⟨(hrow r hr).1, no (hrow r hr).1 (fun _ e => nomatch e)⟩
      · obtain ⟨r, hr, hq⟩ := List.mem_flatMap.mp hq
        obtain ⟨s, hs, rfl⟩ := List.mem_map.mp hq
        have := (hrow r hr).2.2.2 s hs
        exact ⟨this.1, no this.1 (fun _ e => nomatch e)⟩
    have z0 := Hs.anyMs (cs := [(R1, .dK (pws.map Pw.kr)), (R2, .dK (pws.map Pw.ko)), (R3, .dK (pws.map Pw.kw))]) (L := LB) (H := H) nd (by simp [h1, h2, h3]) (fun q hq => (hLB q hq).1) (fun q hq => (hLB q hq).2)
    with_reducible refine wb_go (L := _) (σ := [some (.ref a), some (.int x), some (.ref D), none, none, none, none, none]) ?e z0 ?_
    (case e => rfl)
    rw [show ([(R1, HO.dK (pws.map Pw.kr)), (R2, .dK (pws.map Pw.ko)), (R3, .dK (pws.map Pw.kw))] ++ LB : LL) = (R1, HO.dK (pws.map Pw.kr)) :: (R2, .dK (pws.map Pw.ko)) :: (R3, .dK (pws.map Pw.kw)) :: LB from rfl]
    have i1 : R1 ∈ [(R1, HO.dK (pws.map Pw.kr)), (R2, HO.dK (pws.map Pw.ko)), (R3, HO.dK (pws.map Pw.kw))].map (·.1) := by simp
    have i2 : R2 ∈ [(R1, HO.dK (pws.map Pw.kr)), (R2, HO.dK (pws.map Pw.ko)), (R3, HO.dK (pws.map Pw.kw))].map (·.1) := by simp
    have i3 : R3 ∈ [(R1, HO.dK (pws.map Pw.kr)), (R2, HO.dK (pws.map Pw.ko)), (R3, HO.dK (pws.map Pw.kw))].map (·.1) := by simp
    fail "x"
    rename_i q nq
    have l1 : (pws.map Pw.kr).length ≤ 1000 := by rw [List.length_map]; omega
    have l2 : (pws.map Pw.ko).length ≤ 1000 := by rw [List.length_map]; omega
    have l3 : (pws.map Pw.kw).length ≤ 1000 := by rw [List.length_map]; omega
    refine rs_subP (L' := (R1, .dK (pws.map Pw.kr)) :: (R2, .dK (pws.map Pw.ko)) :: (R3, .dK (pws.map Pw.kw)) :: (q, .lst []) :: LB) (L'' := (q, .lst []) :: (R1, .dK (pws.map Pw.kr)) :: (R2, .dK (pws.map Pw.ko)) :: (R3, .dK (pws.map Pw.kw)) :: LB) perm4 (.refl _) ?_
    refine rs_place (.there hA) (.inr i1) (.inr i2) (.inr i3) l1 l2 l3 ?_
    rw [put_r (p := ⟨x, x, 0, q, []⟩) hxn, put_o (p := ⟨x, x, 0, q, []⟩) hxn, put_w (p := ⟨x, x, 0, q, []⟩) hxn]
    fail "x"
    rename_i W nW
    refine kb_subP (L' := growL R1 R2 R3 W pws [⟨x, x, 0, q, []⟩] [x] LB) (L'' := (W, .lst [.int x]) :: (R1, .dK ((pws ++ [(⟨x, x, 0, q, []⟩ : Pw)]).map Pw.kr)) :: (R2, .dK ((pws ++ [(⟨x, x, 0, q, []⟩ : Pw)]).map Pw.ko)) :: (R3, .dK ((pws ++ [(⟨x, x, 0, q, []⟩ : Pw)]).map Pw.kw)) :: (q, .lst []) :: LB) perm4 (.refl _) ?_
    have g0 : Grown H F x pws [⟨x, x, 0, q, []⟩] rows := Grown.one hpn hxn hx nq
    refine kb_seq (ks_while (W := fun m' σ L => ∃ (new : List Pw) (wait : List Int) (o1 o2 o3 o4 : Option V), σ = [some (.ref a), some (.int x), some (.ref D), some (.ref W), o1, o2, o3, o4] ∧ L = growL R1 R2 R3 W pws new wait LB ∧ Grown H F x pws new rows ∧ (∀ u ∈ wait, u ∈ new.map (·.j)) ∧ wait.length ≤ new.length ∧
      (∀ p ∈ new, p.j ∉ wait → ∀ s ∈ F p.j, s.1 ∈ (pws ++ new).map (·.j)) ∧ (∃ p ∈ new, p.j = x ∧ p.o = 0 ∧ p.ws = []) ∧ m' = 2 * (rows.length - pws.length - new.length) + wait.length) bd.own (2 * (rows.length - pws.length - 1) + 1) ?_ ?_)
    · refine ⟨_, [x], _, _, _, _, rfl, rfl, g0, ?_, Nat.le_refl _, ?_, ?_, rfl⟩
      · intro u hu; rw [List.mem_singleton.mp hu]; simp
      · intro p hp hn; rw [List.mem_singleton.mp hp] at hn; exact absurd (List.mem_singleton.mpr rfl) hn
      · exact ⟨_, List.mem_singleton.mpr rfl, rfl, rfl, rfl⟩
    · rintro m' σ L ⟨new, wait, o1, o2, o3, o4, rfl, rfl, g, hw, hwl, hcl, hroot, rfl⟩
      refine kt_truL (by intro _; rfl) ?_
      fail "x"
      refine ⟨W, _, rfl, .there (.there (.there .here)), ?_⟩
      cases wait with
      | nil =>
        refine pickB_N rfl ?_
        refine kb_nil (.refl _) fun H' z => ?_
        refine k new g (fun p hp => hcl p hp (by simp)) hroot H' (Hs.chgM0 (cs := [(R1, .dK ((pws ++ new).map Pw.kr)), (R2, .dK ((pws ++ new).map Pw.ko)), (R3, .dK ((pws ++ new).map Pw.kw))]) z (fun q hq => ?_) (z.newsS ?_ ?_))
        · simp only [List.mem_cons, List.not_mem_nil, or_false] at hq
          rcases hq with rfl | rfl | rfl
          · exact .here
          · exact .there .here
          · exact .there (.there .here)
        · exact .cons _ (.cons _ (.cons _ (.cons _ (List.sublist_append_left _ _))))
        · intro q hq
          obtain ⟨p, hp, rfl⟩ := List.mem_map.mp hq
          exact g.fr p hp
      | cons l wait =>
        refine pickB_Y rfl ?_
        have hl1 : l ∈ new.map (·.j) := hw l (by simp)
        have hlen := g.len hps
        fail "x"
        refine ke_pop0 rfl rfl rfl rfl rfl ?_
        fail "x"
        refine ⟨_, _, _, rfl, .there (.there (.there .here)), .inl nW, ?_⟩
        fail "x"
        obtain ⟨m1, em1⟩ : ∃ m1, m1 = 2 * (rows.length - pws.length - new.length) + (l :: wait).length := ⟨_, rfl⟩
        rw [← em1]
        rw [List.length_cons] at em1 hwl
        refine kb_seq (ks_for bd.own bd.calm (by intro _; rfl) ?_)
        refine ki_list ?_
        refine Body.dg bd (fun _ _ => rfl) ?_
        fail "x"
        obtain ⟨r1, r, r2, er, eri, ev⟩ := row_at (rows := rows) (j := l) (by obtain ⟨p, hp, e⟩ := List.mem_map.mp hl1; rw [← e]; exact g.sub p hp)
        have hr : r ∈ rows := by rw [er]; simp
        obtain ⟨-, ef, hlx, hss⟩ := hrow r hr
        refine ⟨D, _, _, _, rfl, rfl, .there (.there (.there (.there (.app_r hDL)))), ev, r.a, r.xs.map St3.v, rfl, .there (.there (.there (.there (.app_r (hR r hr))))), fun J wk => ⟨_, _, _, fun i σ L => ∃ (new : List Pw) (wait : List Int) (o2 o3 o4 : Option V), σ = [some (.ref a), some (.int x), some (.ref D), some (.ref W), some (.int l), o2, o3, o4] ∧ L = growL R1 R2 R3 W pws new wait LB ∧ Grown H F x pws new rows ∧ (∀ u ∈ wait, u ∈ new.map (·.j)) ∧ wait.length ≤ new.length ∧ l ∈ new.map (·.j) ∧
          (∀ p ∈ new, p.j ∉ wait → p.j ≠ l → ∀ s ∈ F p.j, s.1 ∈ (pws ++ new).map (·.j)) ∧ (∀ s ∈ r.xs.take i, s.j ∈ (pws ++ new).map (·.j)) ∧ (∃ p ∈ new, p.j = x ∧ p.o = 0 ∧ p.ws = []) ∧ 2 * (rows.length - pws.length - new.length) + wait.length < m1, wk, ?_, ?_, ?_, ?_⟩⟩
        · refine ⟨new, wait, _, _, _, rfl, rfl, g, fun u hu => hw u (List.mem_cons_of_mem _ hu), by omega, hl1, fun p hp hn hne => hcl p hp (fun z => ?_), by simp, hroot, by omega⟩
          rcases List.mem_cons.mp z with z | z
          · exact hne z
          · exact hn z
        · rintro i σ L - ⟨new, wait, o2, o3, o4, rfl, rfl, -⟩
          exact .there (.there (.there (.there (.app_r (hR r hr)))))
        · clear hl1 hlen hroot hcl hw hwl g o2 o3 o4 em1
          rintro i y σ L L' hi ⟨new, wait, o2, o3, o4, rfl, rfl, g, hw, hwl, hl1, hcl, htk, hroot, hm⟩ ⟨rfl, hy⟩
          have hlen := g.len hps
          rw [List.getElem?_map] at hy
          obtain ⟨s, hs, rfl⟩ := Option.map_eq_some_iff.mp hy
          have hsm := List.mem_of_getElem? hs
          obtain ⟨hsa, hsj⟩ := hss s hsm
          have iS : At (growL R1 R2 R3 W pws new wait LB) s.a (.tup [.int s.j, .int s.s, .ref s.t]) := .there (.there (.there (.there (.app_r (hS r hr s hsm)))))
          have iA : At (growL R1 R2 R3 W pws new wait LB) a (levelO c.l dx m R1 R2 R3) := .there (.there (.there (.there (.app_r hA))))
          have htk1 : ∀ ws : List Int, (∀ u ∈ (pws ++ new).map (·.j), u ∈ ws) → s.j ∈ ws → ∀ s ∈ r.xs.take (i + 1), s.j ∈ ws := fun ws sub hj s' hs' => by
            rw [List.take_add_one, hs] at hs'
            rcases List.mem_append.mp hs' with hs' | hs'
            · exact sub _ (htk s' hs')
            · rw [List.mem_singleton.mp hs']; exact hj
          fail "x"
          refine bd.dnin .here ?_
          rw [pw_in]
          fail "x"
          refine pickB_ndec (fun h => ?_) (fun h => ?_)
          · fail "x"
            obtain ⟨p, hp, ej, -, e2, e3⟩ := pw_at (ps := pws ++ new) (j := l) (by rw [List.map_append]; exact List.mem_append_right _ hl1)
            have hpn : p ∈ new := by
              rcases List.mem_append.mp hp with hp | hp
              · exfalso
                have nd := g.nd
                rw [List.map_append] at nd
                exact (List.nodup_append.mp nd).2.2 p.j (List.mem_map.mpr ⟨p, hp, rfl⟩) l hl1 ej
              · exact hp
            have hwp : p.ws.length ≤ 1000 := by have := g.wl p hpn; omega
            refine ⟨R2, _, _, _, rfl, rfl, .there .here, e2, ?_⟩
            fail "x"
            refine ⟨R3, _, _, _, rfl, rfl, .there (.there .here), e3, ?_⟩
            fail "x"
            rename_i q1 nq1
            refine ro_cat (.there (.there (.there (.there (.there (.app_l (.of_mem (List.mem_map.mpr ⟨p, hpn, rfl⟩)))))))) .here ?_ ?_
            · rw [List.length_map]
              exact Nat.le_trans (show p.ws.length + 1 ≤ 1001 by omega) (by decide +kernel)
            intro q nq
            fail "x"
            obtain ⟨p2, ep2⟩ : ∃ p2 : Pw, p2 = ⟨s.j, x, p.o + s.s, q, p.ws ++ [(s.t, s.k, s.b)]⟩ := ⟨_, rfl⟩
            have hn2 : p2.j ∉ (pws ++ new).map (·.j) := by rw [ep2]; exact h
            have g2 : Grown H F x pws (new ++ [p2]) rows := by
              rw [ep2]
              exact g.snoc hpn hr (eri.trans ej.symm) ef hsm hsj h nq
            have eob : p2.ob = (q, .lst (p.ws.map (fun s => V.ref s.1) ++ [V.ref s.t])) := by rw [ep2]; simp [Pw.ob]
            have hlen2 := g2.len hps
            rw [List.length_append, List.length_singleton] at hlen2
            have ll : ∀ {β : Type} (f : Pw → β), ((pws ++ new).map f).length ≤ 1000 := fun f => by rw [List.length_map, List.length_append]; omega
            refine rs_subP (L' := (R1, .dK ((pws ++ new).map Pw.kr)) :: (R2, .dK ((pws ++ new).map Pw.ko)) :: (R3, .dK ((pws ++ new).map Pw.kw)) :: p2.ob :: (W, .lst (wait.map V.int)) :: (new.map Pw.ob ++ LB)) (L'' := p2.ob :: growL R1 R2 R3 W pws new wait LB) perm4 (by rw [eob]; exact .cons₂ _ (.cons _ (.refl _))) ?_
            refine rs_place (.there (.there (.app_r hA))) (.inr i1) (.inr i2) (.inr i3) (ll _) (ll _) (ll _) ?_
            have e1 : putK ((pws ++ new).map Pw.kr) (.inl s.j) (.int x) = (pws ++ (new ++ [p2])).map Pw.kr := by rw [← List.append_assoc, ← put_r hn2, ep2]
            have e2 : putK ((pws ++ new).map Pw.ko) (.inl s.j) (.int (p.o + s.s)) = (pws ++ (new ++ [p2])).map Pw.ko := by rw [← List.append_assoc, ← put_o hn2, ep2]
            have e3 : putK ((pws ++ new).map Pw.kw) (.inl s.j) (.ref q) = (pws ++ (new ++ [p2])).map Pw.kw := by rw [← List.append_assoc, ← put_w hn2, ep2]
            rw [e1, e2, e3]
            fail "x"
            refine ⟨_, _, .there (.there (.there (.there .here))), .inl nW, by rw [List.length_map]; exact Nat.lt_of_le_of_lt (show wait.length ≤ 1000 by omega) (szl1000 rfl), ?_⟩
            rw [← map_snoc]
            have emap : (pws ++ (new ++ [p2])).map (·.j) = (pws ++ new).map (·.j) ++ [s.j] := by rw [← List.append_assoc, List.map_append, ep2]; rfl
            have enew : (new ++ [p2]).map (·.j) = new.map (·.j) ++ [s.j] := by rw [List.map_append, ep2]; rfl
            have up : ∀ u ∈ (pws ++ new).map (·.j), u ∈ (pws ++ (new ++ [p2])).map (·.j) := fun u hu => by rw [emap]; exact List.mem_append_left _ hu
            refine kb_nil (.refl _) (kb_nilP (L' := growL R1 R2 R3 W pws (new ++ [p2]) (wait ++ [s.j]) LB) (L'' := (R1, .dK ((pws ++ (new ++ [p2])).map Pw.kr)) :: (R2, .dK ((pws ++ (new ++ [p2])).map Pw.ko)) :: (R3, .dK ((pws ++ (new ++ [p2])).map Pw.kw)) :: p2.ob :: (W, .lst ((wait ++ [s.j]).map V.int)) :: (new.map Pw.ob ++ LB)) ?_ (.refl _) ⟨new ++ [p2], wait ++ [s.j], _, _, _, rfl, rfl, g2, ?_, ?_, ?_, ?_, ?_, ?_, ?_⟩)
            · refine .cons _ (.cons _ (.cons _ ?_))
              refine List.Perm.trans (.cons _ ?_) (.swap _ _ _)
              rw [List.map_append, List.append_assoc]
              exact List.perm_middle
            · intro u hu
              rw [enew]
              rcases List.mem_append.mp hu with hu | hu
              · exact List.mem_append_left _ (hw u hu)
              · exact List.mem_append_right _ hu
            · rw [List.length_append, List.length_append]
              exact Nat.add_le_add_right hwl 1
            · rw [enew]; exact List.mem_append_left _ hl1
            · intro y hy hn hne u hu
              rcases List.mem_append.mp hy with hy | hy
              · exact up _ (hcl y hy (fun z => hn (List.mem_append_left _ z)) hne u hu)
              · rw [List.mem_singleton.mp hy, ep2] at hn
                exact absurd (List.mem_append_right _ (List.mem_singleton.mpr rfl)) hn
            · exact htk1 _ up (by rw [emap]; exact List.mem_append_right _ (List.mem_singleton.mpr rfl))
            · obtain ⟨y, hy, z⟩ := hroot
              exact ⟨y, List.mem_append_left _ hy, z⟩
            · rw [List.length_append, List.length_append, List.length_singleton, List.length_singleton]
              omega
          · exact kb_nil (.refl _) (kb_nil (.refl _) ⟨new, wait, _, _, _, rfl, rfl, g, hw, hwl, hl1, hcl, htk1 _ (fun _ h => h) h, hroot, hm⟩)
        · clear hl1 hlen hroot hcl hw hwl g o2 o3 o4 em1
          rintro σ L ⟨new, wait, o2, o3, o4, rfl, rfl, g, hw, hwl, hl1, hcl, htk, hroot, hm⟩
          refine kb_nil (.refl _) ⟨_, hm, new, wait, _, _, _, _, rfl, rfl, g, hw, hwl, fun p hp hn s hs => ?_, hroot, rfl⟩
          by_cases e : p.j = l
          · rw [List.length_map, List.take_length] at htk
            rw [e, ← eri, ← ef] at hs
            obtain ⟨s', hs', rfl⟩ := List.mem_map.mp hs
            exact htk s' hs'
          · exact hcl p hp hn e s hs)
end

local macro_rules | `(tactic| fail "lvi") => `(tactic| first
  | ((with_reducible show ∃ _, _); (with_reducible apply lfld_roots); (fail "at"); (with_reducible assumption); (with_reducible assumption))
  | ((with_reducible show ∃ _, _); (with_reducible apply lfld_offs); (fail "at"); (with_reducible assumption); (with_reducible assumption))
  | ((with_reducible show ∃ _, _); (with_reducible apply lfld_ways); (fail "at"); (with_reducible assumption); (with_reducible assumption))
  | ((with_reducible show ∃ _, _); (with_reducible apply lfld_mod); (fail "at"); (with_reducible assumption); (with_reducible assumption))
  | ((with_reducible show ∃ _, _); (with_reducible apply lrecv); (fail "at"); (decide +kernel); (decide +kernel); (decide +kernel); (decide +kernel))
  | (with_reducible refine ke_dnew ?_))
local macro_rules | `(tactic| fail "x") => `(tactic| repeat first | fail "lvi" | fail "1")
section
variable {P : Program} {w : World} {K : PySem.W.Frag} {mg : Str → Option Value} {base : Heap} {c : Cp}
abbrev FT := Int → List (Int × Int × Int × Bool)
def SymF (F : FT) : Prop := ∀ i j s k b, (j, s, k, b) ∈ F i → (i, -s, k, !b) ∈ F j
theorem steps_sym {ps : List T2} {m : Int} {ls : List T3w} {n : Nat} : SymF fun i => stepsN ps m ls i n := by
  intro i j s k b h
  obtain ⟨t, ht, h⟩ := List.mem_flatMap.mp h
  refine List.mem_flatMap.mpr ⟨t, ht, ?_⟩
  cases e : ls[t]? with
  | none => rw [e] at h; cases h
  | some u =>
    rw [e] at h
    dsimp only at h ⊢
    unfold stepW at h ⊢
    split at h
    · rename_i hc
      rw [if_pos hc]
      rcases List.mem_append.mp h with h | h
      · split at h
        · rename_i e1
          cases List.mem_singleton.mp h
          refine List.mem_append_right _ ?_
          rw [if_pos rfl, e1]
          exact List.mem_singleton.mpr rfl
        · cases h
      · split at h
        · rename_i e1
          cases List.mem_singleton.mp h
          refine List.mem_append_left _ ?_
          rw [if_pos rfl, e1, Int.neg_neg]
          exact List.mem_singleton.mpr rfl
        · cases h
    · cases h
/-- the lines of a level that are placed -/
structure LvOk (F : FT) (keys starts : List Int) (pws : List Pw) : Prop where
  nd : (pws.map (·.j)).Nodup
  sub : ∀ p ∈ pws, p.j ∈ keys
  way : ∀ p ∈ pws, WayOk F p.r (p.ws.map (·.2)) p.j p.o
  root : ∀ p ∈ pws, ∃ q ∈ pws, q.j = p.r ∧ q.r = p.r ∧ q.o = 0 ∧ q.ws = []
  tie : ∀ p ∈ pws, ∀ s ∈ F p.j, ∃ q ∈ pws, q.j = s.1 ∧ q.r = p.r
  first : ∀ p ∈ pws, ∃ t : Nat, starts[t]? = some p.r ∧ p.j ∉ starts.take t
  wl : ∀ p ∈ pws, p.ws.length ≤ 40
theorem LvOk.nil {F : FT} {keys starts : List Int} : LvOk F keys starts [] := ⟨List.nodup_nil, by simp, by simp, by simp, by simp, by simp, by simp⟩
theorem LvOk.grow {H : Hp} {F : FT} {keys starts : List Int} {pws new : List Pw} {rows : List Rw} {x : Int} {t : Nat} (h : LvOk F keys starts pws) (g : Grown H F x pws new rows) (ek : rows.map (·.i) = keys) (cl : ∀ p ∈ new, ∀ s ∈ F p.j, s.1 ∈ (pws ++ new).map (·.j)) (rt : ∃ p ∈ new, p.j = x ∧ p.o = 0 ∧ p.ws = [])
    (hx : starts[t]? = some x) (dn : ∀ s ∈ starts.take t, s ∈ keys → s ∈ pws.map (·.j)) (sy : SymF F) (hl : rows.length ≤ 40) : LvOk F keys starts (pws ++ new) := by
  have hln := g.len (fun p hp => by rw [ek]; exact h.sub p hp)
  have dj : ∀ p ∈ new, p.j ∉ pws.map (·.j) := fun p hp hq => by
    have nd := g.nd
    rw [List.map_append] at nd
    exact (List.nodup_append.mp nd).2.2 p.j hq p.j (List.mem_map.mpr ⟨p, hp, rfl⟩) rfl
  refine ⟨g.nd, fun p hp => ?_, fun p hp => ?_, fun p hp => ?_, fun p hp s hs => ?_, fun p hp => ?_, fun p hp => ?_⟩
  · rcases List.mem_append.mp hp with hp | hp
    · exact h.sub p hp
    · rw [← ek]; exact g.sub p hp
  · rcases List.mem_append.mp hp with hp | hp
    · exact h.way p hp
    · rw [g.rt p hp]; exact g.way p hp
  · rcases List.mem_append.mp hp with hp | hp
    · obtain ⟨q, hq, z⟩ := h.root p hp
      exact ⟨q, List.mem_append_left _ hq, z⟩
    · obtain ⟨q, hq, e1, e2, e3⟩ := rt
      exact ⟨q, List.mem_append_right _ hq, e1.trans (g.rt p hp).symm, (g.rt q hq).trans (g.rt p hp).symm, e2, e3⟩
  · rcases List.mem_append.mp hp with hp | hp
    · obtain ⟨q, hq, z⟩ := h.tie p hp s hs
      exact ⟨q, List.mem_append_left _ hq, z⟩
    · obtain ⟨q, hq, e⟩ := List.mem_map.mp (cl p hp s hs)
      rcases List.mem_append.mp hq with hq | hq
      · exfalso
        have := sy p.j s.1 s.2.1 s.2.2.1 s.2.2.2 hs
        rw [← e] at this
        obtain ⟨q2, hq2, e2, -⟩ := h.tie q hq _ this
        exact dj p hp (List.mem_map.mpr ⟨q2, hq2, e2⟩)
      · exact ⟨q, List.mem_append_right _ hq, e, (g.rt q hq).trans (g.rt p hp).symm⟩
  · rcases List.mem_append.mp hp with hp | hp
    · exact h.first p hp
    · refine ⟨t, by rw [g.rt p hp]; exact hx, fun z => dj p hp (dn _ z ?_)⟩
      rw [← ek]; exact g.sub p hp
  · rcases List.mem_append.mp hp with hp | hp
    · exact h.wl p hp
    · have := g.wl p hp
      omega
theorem perm3 {a b c : Addr × HO} {l : LL} : (a :: b :: c :: l).Perm (c :: b :: a :: l) := (List.Perm.swap _ _ _).trans ((List.Perm.cons _ (.swap _ _ _)).trans (.swap _ _ _))
theorem steps_in {ps : List T2} {m : Int} {ls : List T3w} {n : Nat} {i : Int} (hk : ∀ p ∈ ls, 0 ≤ p.x ∧ p.x < ps.length ∧ 0 ≤ p.y ∧ p.y < ps.length ∧ 0 ≤ p.z) {s : Int × Int × Int × Bool} (h : s ∈ stepsN ps m ls i n) : s.1 ∈ keysN ps m ps.length := by
  obtain ⟨t, ht, h⟩ := List.mem_flatMap.mp h
  cases e : ls[t]? with
  | none => rw [e] at h; cases h
  | some u =>
    rw [e] at h
    dsimp only at h
    obtain ⟨u1, u2, u3, u4, -⟩ := hk u (List.mem_of_getElem? e)
    unfold stepW at h
    split at h
    · rename_i hc
      rcases List.mem_append.mp h with h | h
      · split at h
        · rw [List.mem_singleton.mp h]; exact (mem_keysN u3 u4).mpr hc.2
        · cases h
      · split at h
        · rw [List.mem_singleton.mp h]; exact (mem_keysN u1 u2).mpr hc.1
        · cases h
    · cases h
theorem Grown.fresh {H H0 : Hp} {F : FT} {x : Int} {pws new : List Pw} {rows : List Rw} (g : Grown H F x pws new rows) (h : ∀ q, H q = none → H0 q = none) : Grown H0 F x pws new rows := ⟨g.nd, g.sub, g.rt, g.way, fun p hp => h _ (g.fr p hp), g.st, g.wl⟩
theorem rs_grow {H0 : Hp} {M : Addr → Prop} {L1 : LL} {Q : V → LL → Prop} {E : XK} {a dx R1 R2 R3 D : Addr} {m x : Int} {pws : List Pw} {rows : List Rw} {F : FT} (ia : At L1 a (levelO c.l dx m R1 R2 R3)) (iD : At L1 D (.dK (rows.map Rw.kv))) (c1 : H0 R1 = none ∨ M R1) (c2 : H0 R2 = none ∨ M R2) (c3 : H0 R3 = none ∨ M R3)
    (hr : ∀ r ∈ rows, At L1 r.a r.o.2 ∧ r.xs.map St3.data = F r.i ∧ r.xs.length ≤ 160 ∧ ∀ s ∈ r.xs, At L1 s.a s.o.2 ∧ s.j ∈ rows.map (·.i)) (hl : rows.length ≤ 40) (hn : (pws.map (·.j)).Nodup) (hs : ∀ p ∈ pws, p.j ∈ rows.map (·.i)) (hx : x ∈ rows.map (·.i)) (hxn : x ∉ pws.map (·.j))
    (h : ∀ new : List Pw, Grown H0 F x pws new rows → (∀ p ∈ new, ∀ s ∈ F p.j, s.1 ∈ (pws ++ new).map (·.j)) → (∃ p ∈ new, p.j = x ∧ p.o = 0 ∧ p.ws = []) → Q .non (new.map Pw.ob ++ ((R1, .dK ((pws ++ new).map Pw.kr)) :: (R2, .dK ((pws ++ new).map Pw.ko)) :: (R3, .dK ((pws ++ new).map Pw.kw)) :: L1))) :
    rs H0 M (spGrow c) E [.ref a, .int x, .ref D] ((R1, .dK (pws.map Pw.kr)) :: (R2, .dK (pws.map Pw.ko)) :: (R3, .dK (pws.map Pw.kw)) :: L1) Q := fun H z => by
  have nd := z.nd
  rw [List.map_cons, List.map_cons, List.map_cons, List.pairwise_cons, List.pairwise_cons, List.pairwise_cons] at nd
  have ap : ∀ {p q : Addr}, (H0 p = none ∨ M p) → (p ≠ q ∨ (H0 p ≠ none ∧ ¬ M p)) → p ≠ q := fun c w => w.elim id fun w => (c.elim w.1 w.2).elim
  have e12 := ap c1 (nd.1 R2 (by simp))
  have e13 := ap c1 (nd.1 R3 (by simp))
  have e23 := ap c2 (nd.2.1 R3 (by simp))
  have mD : D ∈ L1.map (·.1) := List.mem_map.mpr ⟨_, iD.mem, rfl⟩
  have eD1 := ap c1 (nd.1 D (by simp only [List.mem_cons]; exact .inr (.inr mD)))
  have eD2 := ap c2 (nd.2.1 D (by simp only [List.mem_cons]; exact .inr mD))
  have eD3 := ap c3 (nd.2.2.1 D mD)
  refine ⟨a, dx, m, x, R1, R2, R3, D, pws, rows, F, rfl, z.get (.there (.there (.there ia))), z.get .here, z.get (.there .here), z.get (.there (.there .here)), by simp [e12, e13, e23], z.get (.there (.there (.there iD))), ?_, fun r hr' => ?_, hl, hn, hs, hx, hxn, fun new g cl rt => ?_⟩
  · simp only [List.mem_cons, List.not_mem_nil, or_false]
    rintro (e | e | e)
    · exact eD1 e.symm
    · exact eD2 e.symm
    · exact eD3 e.symm
  · obtain ⟨a1, a2, a3, a4⟩ := hr r hr'
    exact ⟨z.get (.there (.there (.there a1))), a2, a3, fun s hs => ⟨z.get (.there (.there (.there (a4 s hs).1))), (a4 s hs).2⟩⟩
  · refine Hs.mm (cs0 := [(R1, .dK (pws.map Pw.kr)), (R2, .dK (pws.map Pw.ko)), (R3, .dK (pws.map Pw.kw))]) (L := L1) z rfl (fun q hq => ?_) (h new (g.fresh fun q => z.fresh) cl rt)
    simp only [List.map_cons, List.map_nil, List.mem_cons, List.not_mem_nil, or_false] at hq
    rcases hq with rfl | rfl | rfl
    · exact c1
    · exact c2
    · exact c3
theorem putF_new {f : Str} {v : V} : ∀ {fs : List (Str × V)}, (∀ q ∈ fs, q.1 ≠ f) → putF f v fs = fs ++ [(f, v)]
  | [], _ => rfl
  | q :: fs, h => by
    show (if q.1 = f then (q.1, v) :: fs else (q.1, q.2) :: putF f v fs) = _
    rw [if_neg (h q (by simp)), putF_new (fun y hy => h y (List.mem_cons_of_mem _ hy))]
    rfl
theorem lset {H0 : Hp} {M : Addr → Prop} {L : LL} {a C dx : Addr} {f : Str} {v : V} {fs : List (Str × V)} {g : HO → LL} {B : LL → Prop} (s : Spot L a (.ins C dx fs) g) (c : H0 a = none ∨ M a) (hc : Cls K C) (n : NoAttr K C f) (hn : ∀ q ∈ fs, q.1 ≠ f) (hl : fs.length < 1000) (q : B (g (.ins C dx (fs ++ [(f, v)])))) :
    ∃ a' C' dx' fs' g', V.ref a = .ref a' ∧ Spot L a' (.ins C' dx' fs') g' ∧ (H0 a' = none ∨ M a') ∧ Cls K C' ∧ NoAttr K C' f ∧ fs'.length < 1000 ∧ B (g' (.ins C' dx' (putF f v fs'))) := ⟨a, C, dx, fs, g, rfl, s, c, hc, n, hl, by rw [putF_new hn]; exact q⟩
def spLevelI (c : Cp) : Sp := fun vs H Q _ => ∃ (a dx l wl sl : Addr) (m : Int) (ps : List T2) (ls : List T3w) (starts : List Int), vs = [.ref a, .int m, .ref l, .ref wl, .ref sl] ∧ H a = some (.ins c.l dx []) ∧ H l = some (.lst (ps.map T2.v)) ∧ (∀ p ∈ ps, H p.a = some p.o.2) ∧ H wl = some (.lst (ls.map T3w.v)) ∧ (∀ p ∈ ls, H p.a = some p.o.2) ∧ H sl = some (.lst (starts.map V.int)) ∧
  ps.length ≤ 40 ∧ ls.length ≤ 80 ∧ (∀ p ∈ ls, 0 ≤ p.x ∧ p.x < ps.length ∧ 0 ≤ p.y ∧ p.y < ps.length ∧ 0 ≤ p.z) ∧ (∀ i : Nat, i < ps.length → (i : Int) ∈ starts) ∧
  ∀ (R1 R2 R3 : Addr) (pws : List Pw) (T : LL), LvOk (fun i => stepsN ps m ls i ls.length) (keysN ps m ps.length) starts pws → (∀ j ∈ keysN ps m ps.length, j ∈ pws.map (·.j)) → (∀ p ∈ pws, ∀ u ∈ p.ws, At T u.1 (.tup [.int u.2.1, .bl u.2.2])) → H R1 = none → H R2 = none → H R3 = none → (∀ p ∈ pws, H p.a = none) → (∀ q ∈ T, H q.1 = none) →
    RetC H Q .non a (levelO c.l dx m R1 R2 R3) ((R1, .dK (pws.map Pw.kr)) :: (R2, .dK (pws.map Pw.ko)) :: (R3, .dK (pws.map Pw.kw)) :: (pws.map Pw.ob ++ T))
theorem ok_Level (T : Tx P K mg c) : MakeT P w K mg base CX0 4 "Level" c.l (spLevelI c) :=
  T.Level_init.ok bi_Level_init fun f fd F => fk_body F sc_Level_init lo_Level_init pl_Level_init (by (conv => lhs; whnf)) (fun vs H Q E h => by obtain ⟨a, dx, l, wl, sl, m, ps, ls, starts, rfl, _⟩ := h; rfl) (fun X bd ns H vs Q E h => by
    obtain ⟨a, dx, l, wl, sl, m, ps, ls, starts, rfl, ha, hl, hps, hwl, hls, hsl, n1, n2, hk, hst, k⟩ := h
    have nm := bd.nm
    have hB := T.blt
    have cl : Cls X.K c.l := by rw [bd.K]; exact T.cls_l
    have na0 : NoAttr X.K c.l "modulus" := by rw [bd.K]; exact T.na_lmodulus
    have na1 : NoAttr X.K c.l "roots" := by rw [bd.K]; exact T.na_lroots
    have na2 : NoAttr X.K c.l "offsets" := by rw [bd.K]; exact T.na_loffsets
    have na3 : NoAttr X.K c.l "ways" := by rw [bd.K]; exact T.na_lways
    have dg := ok_grow (P := P) (w := w) (base := base) T
    have ds := ok_steps_of (P := P) (w := w) (base := base) T
    obtain ⟨LB, hLl, hLp, hLw, hLs, hLt, hLB⟩ : ∃ LB : LL, At LB l (.lst (ps.map T2.v)) ∧ Alls T2.o LB ps ∧ At LB wl (.lst (ls.map T3w.v)) ∧ Alls T3w.o LB ls ∧ At LB sl (.lst (starts.map V.int)) ∧ ∀ q ∈ LB, H q.1 = some q.2 ∧ q.1 ≠ a := by
      refine ⟨(l, .lst (ps.map T2.v)) :: (wl, .lst (ls.map T3w.v)) :: (sl, .lst (starts.map V.int)) :: (ps.map T2.o ++ ls.map T3w.o), .here, fun x hx => .there (.there (.there (Alls.self.app_l x hx))), .there .here, fun x hx => .there (.there (.there (Alls.self.app_r x hx))), .there (.there .here), fun q hq => ?_⟩
      have no : ∀ {b : Addr} {o : HO}, H b = some o → (∀ C d fs, o ≠ .ins C d fs) → b ≠ a := fun {b o} e z hb => by
        subst hb
        rw [ha] at e
        exact z _ _ _ (Option.some.inj e).symm
      rcases List.mem_cons.mp hq with rfl | hq
      · exact ⟨hl, no hl (fun _ _ _ e => nomatch e)⟩
      rcases List.mem_cons.mp hq with rfl | hq
      · exact ⟨hwl, no hwl (fun _ _ _ e => nomatch e)⟩
      rcases List.mem_cons.mp hq with rfl | hq
      · exact ⟨hsl, no hsl (fun _ _ _ e => nomatch e)⟩
      rcases List.mem_append.mp hq with hq | hq
      · obtain ⟨x, hx, rfl⟩ := List.mem_map.mp hq
        exact ⟨hps x hx, no (hps x hx) (fun _ _ _ e => nomatch e)⟩
      · obtain ⟨x, hx, rfl⟩ := List.mem_map.mp hq
        exact ⟨hls x hx, no (hls x hx) (fun _ _ _ e => nomatch e)⟩
    have z0 := Hs.anyM (a := a) (o := .ins c.l dx []) (L := LB) (H := H) ha (fun q hq => (hLB q hq).1) (fun q hq => (hLB q hq).2)
    with_reducible refine wb_go (L := _) (σ := [some (.ref a), some (.int m), some (.ref l), some (.ref wl), some (.ref sl), none, none]) ?e z0 ?_
    (case e => rfl)
    fail "x"
    refine lset .here (.inr rfl) cl na0 (by simp) (by decide) ?_
    fail "x"
    intro R1 nR1
    fail "x"
    refine lset (.there .here) (.inr rfl) cl na1 (by simp only [List.nil_append, List.cons_append, List.forall_mem_cons]; exact ⟨by decide +kernel, fun _ h => nomatch h⟩) (by simp) ?_
    fail "x"
    intro R2 nR2
    fail "x"
    refine lset (.there (.there .here)) (.inr rfl) cl na2 (by simp only [List.nil_append, List.cons_append, List.forall_mem_cons]; exact ⟨by decide +kernel, by decide +kernel, fun _ h => nomatch h⟩) (by simp) ?_
    fail "x"
    intro R3 nR3
    fail "x"
    refine lset (.there (.there (.there .here))) (.inr rfl) cl na3 (by simp only [List.nil_append, List.cons_append, List.forall_mem_cons]; exact ⟨by decide +kernel, by decide +kernel, by decide +kernel, fun _ h => nomatch h⟩) (by simp) ?_
    fail "x"
    refine rs_subP (L' := (R1, .dK []) :: (R2, .dK []) :: (R3, .dK []) :: (a, levelO c.l dx m R1 R2 R3) :: LB) (L'' := (R3, .dK []) :: (R2, .dK []) :: (R1, .dK []) :: (a, levelO c.l dx m R1 R2 R3) :: LB) perm3 (.refl _) ?_
    refine rs_steps (ps := ps) (ls := ls) (.there (.there (.there (.there hLl)))) (hLp.there.there.there.there) (.there (.there (.there (.there hLw)))) (hLs.there.there.there.there) n1 n2 hk ?_
    intro D rows T nD nrow nT hrk hrd hal
    fail "x"
    have hlr : rows.length ≤ 40 := by
      have := congrArg List.length hrk
      rw [List.length_map] at this
      rw [this]
      unfold keysN
      rw [List.length_map]
      exact Nat.le_trans (List.length_filter_le _ _) (by rw [List.length_range]; exact n1)
    obtain ⟨LN, hA, hDN, hR, hS, hTN, hSl, hpm⟩ : ∃ LN : LL, At LN a (levelO c.l dx m R1 R2 R3) ∧ At LN D (.dK (rows.map Rw.kv)) ∧ (∀ r ∈ rows, At LN r.a r.o.2) ∧ (∀ r ∈ rows, ∀ s ∈ r.xs, At LN s.a s.o.2) ∧ Sub ((a, levelO c.l dx m R1 R2 R3) :: T) LN ∧ At LN sl (.lst (starts.map V.int)) ∧ ((D, .dK (rows.map Rw.kv)) :: (rows.map Rw.o ++ T) ++ ((R1, .dK []) :: (R2, .dK []) :: (R3, .dK []) :: (a, levelO c.l dx m R1 R2 R3) :: LB)).Perm ((R1, .dK []) :: (R2, .dK []) :: (R3, .dK []) :: LN) := by
      refine ⟨(a, levelO c.l dx m R1 R2 R3) :: (D, .dK (rows.map Rw.kv)) :: (rows.map Rw.o ++ (T ++ LB)), .here, .there .here, fun r hr => .there (.there (.app_l (.of_mem (List.mem_map.mpr ⟨r, hr, rfl⟩)))), fun r hr s hs => .there (.there (.app_r (.app_l ((hal r hr).1 s hs)))), .cons₂ _ (.cons _ ((List.sublist_append_left T LB).trans (List.sublist_append_right _ _))), .there (.there (.app_r (.app_r hLt))), ?_⟩
      rw [← List.append_assoc]
      exact List.perm_middle.trans (.cons _ (List.perm_middle.trans (.cons _ (List.perm_middle.trans (.cons _ List.perm_middle)))))
    have hrow : ∀ r ∈ rows, r.xs.length ≤ 160 ∧ ∀ s ∈ r.xs, s.j ∈ rows.map (·.i) := fun r hr => by
      have e := hrd r hr
      refine ⟨?_, fun s hs => ?_⟩
      · have := congrArg List.length e
        rw [List.length_map] at this
        rw [this]
        exact Nat.le_trans stepsN_len (by omega)
      · rw [hrk]
        exact steps_in (s := s.data) hk (by rw [← e]; exact List.mem_map.mpr ⟨s, hs, rfl⟩)
    refine kb_subP hpm.symm (.refl _) ?_
    refine kb_seq (ks_for bd.own bd.calm (by intro _; rfl) ?_)
    refine ki_list ?_
    fail "x"
    refine ⟨sl, _, rfl, .there (.there (.there hSl)), fun J wk => ⟨_, _, _, fun i σ L => ∃ (pws : List Pw) (o : Option V), σ = [some (.ref a), some (.int m), some (.ref l), some (.ref wl), some (.ref sl), some (.ref D), o] ∧ L = (R1, .dK (pws.map Pw.kr)) :: (R2, .dK (pws.map Pw.ko)) :: (R3, .dK (pws.map Pw.kw)) :: (pws.map Pw.ob ++ LN) ∧
      LvOk (fun i => stepsN ps m ls i ls.length) (keysN ps m ps.length) starts pws ∧ (∀ s ∈ starts.take i, s ∈ keysN ps m ps.length → s ∈ pws.map (·.j)) ∧ (∀ p ∈ pws, H p.a = none) ∧ (∀ p ∈ pws, ∀ u ∈ p.ws, ∃ r ∈ rows, ∃ s ∈ r.xs, u = (s.t, s.k, s.b)), wk, ?_, ?_, ?_, ?_⟩⟩
    · exact ⟨[], _, rfl, rfl, .nil, by simp, by simp, by simp⟩
    · rintro i σ L - ⟨pws, o, rfl, rfl, -⟩
      exact .there (.there (.there (.app_r hSl)))
    · rintro i y σ L L' hi ⟨pws, o, rfl, rfl, lv, hdn, hfr, hst2⟩ ⟨rfl, hy⟩
      rw [List.getElem?_map] at hy
      obtain ⟨x, hx, rfl⟩ := Option.map_eq_some_iff.mp hy
      have iA : At (pws.map Pw.ob ++ LN) a (levelO c.l dx m R1 R2 R3) := .app_r hA
      have dn1 : ∀ pws' : List Pw, (∀ u ∈ pws.map (·.j), u ∈ pws'.map (·.j)) → (x ∈ keysN ps m ps.length → x ∈ pws'.map (·.j)) → ∀ s ∈ starts.take (i + 1), s ∈ keysN ps m ps.length → s ∈ pws'.map (·.j) := fun pws' sub hj s' hs' hk' => by
        rw [List.take_add_one, hx] at hs'
        rcases List.mem_append.mp hs' with hs' | hs'
        · exact sub _ (hdn s' hs' hk')
        · have e := List.mem_singleton.mp hs'
          rw [e] at hk' ⊢
          exact hj hk'
      fail "x"
      refine bd.din (.there (.there (.there (.app_r hDN)))) ?_
      rw [valV_rows, hrk]
      fail "x"
      refine pickB_dec (fun h1 => ?_) (fun h1 => ?_)
      · fail "x"
        refine bd.dnin .here ?_
        rw [pw_in]
        fail "x"
        refine pickB_ndec (fun h2 => ?_) (fun h2 => ?_)
        · fail "x"
          refine rs_grow (F := fun i => stepsN ps m ls i ls.length) iA (.app_r hDN) (.inl nR1) (.inl nR2) (.inl nR3) (fun r hr => ⟨.app_r (hR r hr), hrd r hr, (hrow r hr).1, fun s hs => ⟨.app_r (hS r hr s hs), (hrow r hr).2 s hs⟩⟩) hlr lv.nd (fun p hp => by rw [hrk]; exact lv.sub p hp) (by rw [hrk]; exact h1) h2 ?_
          intro new g cl rt
          refine kb_nil (.refl _) (kb_nilP (L' := (R1, .dK ((pws ++ new).map Pw.kr)) :: (R2, .dK ((pws ++ new).map Pw.ko)) :: (R3, .dK ((pws ++ new).map Pw.kw)) :: ((pws ++ new).map Pw.ob ++ LN)) ?_ (.refl _) ⟨pws ++ new, _, rfl, rfl, lv.grow g hrk cl rt hx hdn steps_sym hlr, dn1 _ (fun u hu => by rw [List.map_append]; exact List.mem_append_left _ hu) (fun _ => ?_), fun p hp => ?_, fun p hp => ?_⟩)
          · refine List.Perm.symm (List.perm_middle.trans (.cons _ (List.perm_middle.trans (.cons _ (List.perm_middle.trans (.cons _ ?_))))))
            rw [List.map_append, ← List.append_assoc]
            exact List.perm_append_comm.append_right LN
          · obtain ⟨p, hp, e, -⟩ := rt
            exact List.mem_map.mpr ⟨p, List.mem_append_right _ hp, e⟩
          · exact (List.mem_append.mp hp).elim (hfr p) (g.fr p)
          · exact (List.mem_append.mp hp).elim (hst2 p) (g.st p)
        · exact kb_nil (.refl _) (kb_nil (.refl _) ⟨pws, _, rfl, rfl, lv, dn1 _ (fun _ h => h) (fun _ => h2), hfr, hst2⟩)
      · fail "x"
        exact kb_nil (.refl _) (kb_nil (.refl _) ⟨pws, _, rfl, rfl, lv, dn1 _ (fun _ h => h) (fun h => absurd h h1), hfr, hst2⟩)
    · rintro σ L ⟨pws, o, rfl, rfl, lv, hdn, hfr, hst2⟩
      refine kb_nil (.refl _) fun H' z => ?_
      refine k R1 R2 R3 pws T lv (fun j hj => ?_) (fun p hp u hu => ?_) nR1 nR2 nR3 hfr nT H' (z.chg0 (.there (.there (.there (.app_r hA)))) (z.newsS ?_ ?_))
      · rw [List.length_map] at hdn
        obtain ⟨i, rfl⟩ : ∃ i : Nat, j = i := by
          obtain ⟨i, _, e⟩ := List.mem_map.mp hj
          exact ⟨i, e.symm⟩
        refine hdn _ ?_ hj
        rw [List.take_length]
        exact hst i (by have := keysN_lt hj; omega)
      · obtain ⟨r, hr, s, hs, rfl⟩ := hst2 p hp u hu
        exact (hal r hr).2 s hs
      · exact .cons₂ _ (.cons₂ _ (.cons₂ _ (.append (.refl _) ((List.sublist_cons_self _ _).trans hTN))))
      · intro q hq
        rcases List.mem_cons.mp hq with rfl | hq
        · exact nR1
        rcases List.mem_cons.mp hq with rfl | hq
        · exact nR2
        rcases List.mem_cons.mp hq with rfl | hq
        · exact nR3
        rcases List.mem_append.mp hq with hq | hq
        · obtain ⟨p, hp, rfl⟩ := List.mem_map.mp hq
          exact hfr p hp
        · exact nT q hq)
end

local macro_rules | `(tactic| fail "lvj") => `(tactic| first
  | (with_reducible refine ke_dnew ?_))
local macro_rules | `(tactic| fail "x") => `(tactic| repeat first | fail "lvj" | fail "1")
section
variable {P : Program} {w : World} {K : PySem.W.Frag} {mg : Str → Option Value} {base : Heap} {c : Cp}
/-- a plan -/
abbrev planO (C dx l w f v : Addr) : HO := .ins C dx [("_lines", .ref l), ("_wishes", .ref w), ("_fixed", .ref f), ("_levels", .ref v)]
section
variable {L : LL} {a C dx l w f v : Addr} {B : V → Prop}
theorem lk_pl : ([("_lines", .ref l), ("_wishes", .ref w), ("_fixed", .ref f), ("_levels", .ref v)] : List (Str × V)).lookup ("_lines" : Str) = some (.ref l) := by rw [List.lookup_cons, beq_self_eq_true]
theorem lk_pw : ([("_lines", .ref l), ("_wishes", .ref w), ("_fixed", .ref f), ("_levels", .ref v)] : List (Str × V)).lookup ("_wishes" : Str) = some (.ref w) := by
  rw [List.lookup_cons, show (("_wishes" : Str) == ("_lines" : Str)) = false from by decide +kernel, List.lookup_cons, beq_self_eq_true]
theorem lk_pf : ([("_lines", .ref l), ("_wishes", .ref w), ("_fixed", .ref f), ("_levels", .ref v)] : List (Str × V)).lookup ("_fixed" : Str) = some (.ref f) := by
  rw [List.lookup_cons, show (("_fixed" : Str) == ("_lines" : Str)) = false from by decide +kernel, List.lookup_cons, show (("_fixed" : Str) == ("_wishes" : Str)) = false from by decide +kernel, List.lookup_cons, beq_self_eq_true]
abbrev plan3 (x y z : V) : List (Str × V) := [("_lines", x), ("_wishes", y), ("_fixed", z)]
theorem lk_pf3 {x y z : V} : (plan3 x y z).lookup ("_fixed" : Str) = some z := by
  rw [List.lookup_cons, show (("_fixed" : Str) == ("_lines" : Str)) = false from by decide +kernel, List.lookup_cons, show (("_fixed" : Str) == ("_wishes" : Str)) = false from by decide +kernel, List.lookup_cons, beq_self_eq_true]
theorem lk_pl3 {x y z : V} : (plan3 x y z).lookup ("_lines" : Str) = some x := by
  rw [List.lookup_cons, beq_self_eq_true]
theorem lk_pw3 {x y z : V} : (plan3 x y z).lookup ("_wishes" : Str) = some y := by
  rw [List.lookup_cons, show (("_wishes" : Str) == ("_lines" : Str)) = false from by decide +kernel, List.lookup_cons, beq_self_eq_true]
theorem lk_pv : ([("_lines", .ref l), ("_wishes", .ref w), ("_fixed", .ref f), ("_levels", .ref v)] : List (Str × V)).lookup ("_levels" : Str) = some (.ref v) := by
  rw [List.lookup_cons, show (("_levels" : Str) == ("_lines" : Str)) = false from by decide +kernel, List.lookup_cons, show (("_levels" : Str) == ("_wishes" : Str)) = false from by decide +kernel, List.lookup_cons, show (("_levels" : Str) == ("_fixed" : Str)) = false from by decide +kernel, List.lookup_cons, beq_self_eq_true]
theorem pfld_l (ia : At L a (planO C dx l w f v)) (hc : Cls K C) (n : NoAttr K C "_lines") (q : B (.ref l)) : ∃ a' C' dx' fs v, V.ref a = .ref a' ∧ At L a' (.ins C' dx' fs) ∧ Cls K C' ∧ NoAttr K C' "_lines" ∧ fs.lookup ("_lines" : Str) = some v ∧ B v := ⟨a, C, dx, _, _, rfl, ia, hc, n, lk_pl, q⟩
theorem pfld_w (ia : At L a (planO C dx l w f v)) (hc : Cls K C) (n : NoAttr K C "_wishes") (q : B (.ref w)) : ∃ a' C' dx' fs v, V.ref a = .ref a' ∧ At L a' (.ins C' dx' fs) ∧ Cls K C' ∧ NoAttr K C' "_wishes" ∧ fs.lookup ("_wishes" : Str) = some v ∧ B v := ⟨a, C, dx, _, _, rfl, ia, hc, n, lk_pw, q⟩
theorem pfld_f (ia : At L a (planO C dx l w f v)) (hc : Cls K C) (n : NoAttr K C "_fixed") (q : B (.ref f)) : ∃ a' C' dx' fs v, V.ref a = .ref a' ∧ At L a' (.ins C' dx' fs) ∧ Cls K C' ∧ NoAttr K C' "_fixed" ∧ fs.lookup ("_fixed" : Str) = some v ∧ B v := ⟨a, C, dx, _, _, rfl, ia, hc, n, lk_pf, q⟩
theorem pfld_v (ia : At L a (planO C dx l w f v)) (hc : Cls K C) (n : NoAttr K C "_levels") (q : B (.ref v)) : ∃ a' C' dx' fs v, V.ref a = .ref a' ∧ At L a' (.ins C' dx' fs) ∧ Cls K C' ∧ NoAttr K C' "_levels" ∧ fs.lookup ("_levels" : Str) = some v ∧ B v := ⟨a, C, dx, _, _, rfl, ia, hc, n, lk_pv, q⟩
theorem precv {m : Str} {B : Addr → Prop} (ia : At L a (planO C dx l w f v)) (e1 : (m == ("_lines" : Str)) = false) (e2 : (m == ("_wishes" : Str)) = false) (e3 : (m == ("_fixed" : Str)) = false) (e4 : (m == ("_levels" : Str)) = false) (q : B a) :
    ∃ a' C' dx' fs, V.ref a = .ref a' ∧ At L a' (.ins C' dx' fs) ∧ Is1 C C' ∧ fs.lookup m = none ∧ B a' := ⟨a, C, dx, _, rfl, ia, rfl, by rw [List.lookup_cons, e1, List.lookup_cons, e2, List.lookup_cons, e3, List.lookup_cons, e4]; rfl, q⟩
end
section
variable {H0 : Hp} {M : Addr → Prop} {L : LL} {Q : V → LL → Prop} {E : XK}
theorem rs_cLines {l : Addr} {ps : List T2} (il : At L l (.lst (ps.map T2.v))) (al : Alls T2.o L ps) (n1 : 1 ≤ ps.length) (n2 : ps.length ≤ 40) (hp : ∀ p ∈ ps, 1 ≤ p.x ∧ 0 ≤ p.y) (hf : (ps.map (·.x)).Pairwise FitI) (h : Q .non L) : rs H0 M spCheckLines E [.ref l] L Q :=
  fun H z => ⟨l, ps, rfl, z.get il, al.get z, n1, n2, hp, hf, z.p0 h⟩
theorem rs_cWishes {l : Addr} {ls : List T3w} {m : Int} (il : At L l (.lst (ls.map T3w.v))) (al : Alls T3w.o L ls) (n1 : ls.length ≤ 80) (hp : ∀ p ∈ ls, 0 ≤ p.x ∧ p.x < m ∧ 0 ≤ p.y ∧ p.y < m ∧ 0 ≤ p.z) (h : Q .non L) : rs H0 M spCheckWishes E [.ref l, .int m] L Q :=
  fun H z => ⟨l, ls, m, rfl, z.get il, al.get z, n1, hp, z.p0 h⟩
theorem rs_cFixed {f l : Addr} {hs ps : List T2} (fl : At L f (.lst (hs.map T2.v))) (al : Alls T2.o L hs) (il : At L l (.lst (ps.map T2.v))) (al2 : Alls T2.o L ps) (n1 : hs.length ≤ 40) (nd : (hs.map (·.x)).Nodup) (hk : ∀ h ∈ hs, 0 ≤ h.x ∧ h.x < ps.length ∧ ∀ p, ps[h.x.toNat]? = some p → 0 ≤ h.y ∧ h.y < p.x) (h : Q .non L) : rs H0 M spCheckFixed E [.ref f, .ref l] L Q :=
  fun H z => ⟨f, l, hs, ps, rfl, z.get fl, al.get z, z.get il, al2.get z, n1, nd, hk, z.p0 h⟩
end
/-- what a plan is made of -/
structure PlanIn (ps : List T2) (ls : List T3w) (hs : List T2) : Prop where
  n0 : 1 ≤ ps.length
  n1 : ps.length ≤ 40
  n2 : ls.length ≤ 80
  n3 : hs.length ≤ 40
  ok : ∀ p ∈ ps, 1 ≤ p.x ∧ 0 ≤ p.y
  fit : (ps.map (·.x)).Pairwise FitI
  wi : ∀ p ∈ ls, 0 ≤ p.x ∧ p.x < ps.length ∧ 0 ≤ p.y ∧ p.y < ps.length ∧ 0 ≤ p.z
  nd : (hs.map (·.x)).Nodup
  fx : ∀ h ∈ hs, 0 ≤ h.x ∧ h.x < ps.length ∧ ∀ p, ps[h.x.toNat]? = some p → 0 ≤ h.y ∧ h.y < p.x
/-- a level's objects -/
structure Lv where
  a : Addr
  dx : Addr
  m : Int
  R1 : Addr
  R2 : Addr
  R3 : Addr
  pws : List Pw
  T : LL
abbrev Lv.v (q : Lv) : V := .ref q.a
abbrev Lv.os (c : Cp) (q : Lv) : LL := (q.a, levelO c.l q.dx q.m q.R1 q.R2 q.R3) :: (q.R1, .dK (q.pws.map Pw.kr)) :: (q.R2, .dK (q.pws.map Pw.ko)) :: (q.R3, .dK (q.pws.map Pw.kw)) :: (q.pws.map Pw.ob ++ q.T)
/-- the departures' order of asking -/
abbrev startsOf (ps hs : List T2) : List Int := hs.map (·.x) ++ rgI ps.length
structure LvFull (ps : List T2) (ls : List T3w) (hs : List T2) (q : Lv) : Prop where
  lv : LvOk (fun i => stepsN ps q.m ls i ls.length) (keysN ps q.m ps.length) (startsOf ps hs) q.pws
  all : ∀ j ∈ keysN ps q.m ps.length, j ∈ q.pws.map (·.j)
  tup : ∀ p ∈ q.pws, ∀ u ∈ p.ws, At q.T u.1 (.tup [.int u.2.1, .bl u.2.2])
structure PlanOk (ps : List T2) (ls : List T3w) (hs : List T2) (lvs : List Lv) : Prop extends PlanIn ps ls hs where
  asc : (lvs.map (·.m)).Pairwise (· < ·)
  ms : ∀ m : Int, m ∈ lvs.map (·.m) ↔ m ∈ ps.map (·.x)
  lvs : ∀ q ∈ lvs, LvFull ps ls hs q
abbrev fxK (h : T2) : Key × V := (.inl h.x, .int h.y)
abbrev planN (c : Cp) (l w f v : Addr) (ps : List T2) (ls : List T3w) (hs : List T2) (lvs : List Lv) : LL := (l, .lst (ps.map T2.v)) :: (w, .lst (ls.map T3w.v)) :: (f, .dK (hs.map fxK)) :: (v, .lst (lvs.map Lv.v)) :: lvs.flatMap (Lv.os c)
def spPlanI (c : Cp) : Sp := fun vs H Q _ => ∃ (a dx l wl fl : Addr) (ps : List T2) (ls : List T3w) (hs : List T2), vs = [.ref a, .ref l, .ref wl, .ref fl] ∧ H a = some (.ins c.p dx []) ∧ H l = some (.lst (ps.map T2.v)) ∧ (∀ p ∈ ps, H p.a = some p.o.2) ∧ H wl = some (.lst (ls.map T3w.v)) ∧ (∀ p ∈ ls, H p.a = some p.o.2) ∧ H fl = some (.lst (hs.map T2.v)) ∧ (∀ p ∈ hs, H p.a = some p.o.2) ∧ PlanIn ps ls hs ∧
  ∀ (l' w' f' v' : Addr) (lvs : List Lv), PlanOk ps ls hs lvs → (∀ q ∈ planN c l' w' f' v' ps ls hs lvs, H q.1 = none) → RetC H Q .non a (planO c.p dx l' w' f' v') (planN c l' w' f' v' ps ls hs lvs)
theorem rs_LevelI {H0 : Hp} {M : Addr → Prop} {L : LL} {Q : V → LL → Prop} {E : XK} {a dx l wl sl : Addr} {m : Int} {ps : List T2} {ls : List T3w} {starts : List Int} {g : HO → LL} (s : Spot L a (.ins c.l dx []) g) (cc : H0 a = none ∨ M a) (il : At L l (.lst (ps.map T2.v))) (al : Alls T2.o L ps) (iw : At L wl (.lst (ls.map T3w.v))) (al2 : Alls T3w.o L ls) (is : At L sl (.lst (starts.map V.int)))
    (n1 : ps.length ≤ 40) (n2 : ls.length ≤ 80) (hk : ∀ p ∈ ls, 0 ≤ p.x ∧ p.x < ps.length ∧ 0 ≤ p.y ∧ p.y < ps.length ∧ 0 ≤ p.z) (hst : ∀ i : Nat, i < ps.length → (i : Int) ∈ starts)
    (h : ∀ (R1 R2 R3 : Addr) (pws : List Pw) (T : LL), LvOk (fun i => stepsN ps m ls i ls.length) (keysN ps m ps.length) starts pws → (∀ j ∈ keysN ps m ps.length, j ∈ pws.map (·.j)) → (∀ p ∈ pws, ∀ u ∈ p.ws, At T u.1 (.tup [.int u.2.1, .bl u.2.2])) → H0 R1 = none → H0 R2 = none → H0 R3 = none → (∀ p ∈ pws, H0 p.a = none) → (∀ q ∈ T, H0 q.1 = none) →
      Q .non (((R1, .dK (pws.map Pw.kr)) :: (R2, .dK (pws.map Pw.ko)) :: (R3, .dK (pws.map Pw.kw)) :: (pws.map Pw.ob ++ T)) ++ g (levelO c.l dx m R1 R2 R3))) : rs H0 M (spLevelI c) E [.ref a, .int m, .ref l, .ref wl, .ref sl] L Q :=
  fun H z => ⟨a, dx, l, wl, sl, m, ps, ls, starts, rfl, z.at_ _ s.mem, z.get il, al.get z, z.get iw, al2.get z, z.get is, n1, n2, hk, hst, fun R1 R2 R3 pws T h1 h2 h3 e1 e2 e3 e4 e5 => z.cc s cc (h R1 R2 R3 pws T h1 h2 h3 (z.fresh e1) (z.fresh e2) (z.fresh e3) (fun p hp => z.fresh (e4 p hp)) (fun q hq => z.fresh (e5 q hq)))⟩
theorem ok_Plan (T : Tx P K mg c) : MakeT P w K mg base CX0 6 "Plan" c.p (spPlanI c) :=
  T.Plan_init.ok bi_Plan_init fun f fd F => fk_body F sc_Plan_init lo_Plan_init pl_Plan_init (by (conv => lhs; whnf)) (fun vs H Q E h => by obtain ⟨a, dx, l, wl, fl, ps, ls, hs, rfl, _⟩ := h; rfl) (fun X bd ns H vs Q E h => by
    obtain ⟨a, dx, l, wl, fl, ps, ls, hs, rfl, ha, hl, hps, hwl, hls, hfl, hhs, ok, k⟩ := h
    have nm := bd.nm
    have hB := T.blt
    have cl : Cls X.K c.p := by rw [bd.K]; exact T.cls_p
    have na0 : NoAttr X.K c.p "_lines" := by rw [bd.K]; exact T.na_p_lines
    have na1 : NoAttr X.K c.p "_wishes" := by rw [bd.K]; exact T.na_p_wishes
    have na2 : NoAttr X.K c.p "_fixed" := by rw [bd.K]; exact T.na_p_fixed
    have na3 : NoAttr X.K c.p "_levels" := by rw [bd.K]; exact T.na_p_levels
    have d1 := ok_check_lines (P := P) (w := w) (base := base) T
    have d2 := ok_check_wishes (P := P) (w := w) (base := base) T
    have d3 := ok_check_fixed (P := P) (w := w) (base := base) T
    have d4 := ok_Level (P := P) (w := w) (base := base) T
    have ok0 := ok
    obtain ⟨n0, n1, n2, n3, hok, hfit, hwi, hnd, hfx⟩ := ok
    have lnl : (ps.map T2.v).length = ps.length := List.length_map _
    obtain ⟨LB, hLl, hLp, hLw, hLs, hLf, hLh, hLB⟩ : ∃ LB : LL, At LB l (.lst (ps.map T2.v)) ∧ Alls T2.o LB ps ∧ At LB wl (.lst (ls.map T3w.v)) ∧ Alls T3w.o LB ls ∧ At LB fl (.lst (hs.map T2.v)) ∧ Alls T2.o LB hs ∧ ∀ q ∈ LB, H q.1 = some q.2 ∧ q.1 ≠ a := by
      refine ⟨(l, .lst (ps.map T2.v)) :: (wl, .lst (ls.map T3w.v)) :: (fl, .lst (hs.map T2.v)) :: (ps.map T2.o ++ (ls.map T3w.o ++ hs.map T2.o)), .here, fun x hx => .there (.there (.there (Alls.self.app_l x hx))), .there .here, fun x hx => .there (.there (.there (.app_r (Alls.self.app_l x hx)))), .there (.there .here), fun x hx => .there (.there (.there (.app_r (.app_r (Alls.self x hx))))), fun q hq => ?_⟩
      have no : ∀ {b : Addr} {o : HO}, H b = some o → (∀ C d fs, o ≠ .ins C d fs) → b ≠ a := fun {b o} e z hb => by
        subst hb
        rw [ha] at e
        exact z _ _ _ (Option.some.inj e).symm
      rcases List.mem_cons.mp hq with rfl | hq
      · exact ⟨hl, no hl (fun _ _ _ e => nomatch e)⟩
      rcases List.mem_cons.mp hq with rfl | hq
      · exact ⟨hwl, no hwl (fun _ _ _ e => nomatch e)⟩
      rcases List.mem_cons.mp hq with rfl | hq
      · exact ⟨hfl, no hfl (fun _ _ _ e => nomatch e)⟩
      rcases List.mem_append.mp hq with hq | hq
      · obtain ⟨x, hx, rfl⟩ := List.mem_map.mp hq
        exact ⟨hps x hx, no (hps x hx) (fun _ _ _ e => nomatch e)⟩
      rcases List.mem_append.mp hq with hq | hq
      · obtain ⟨x, hx, rfl⟩ := List.mem_map.mp hq
        exact ⟨hls x hx, no (hls x hx) (fun _ _ _ e => nomatch e)⟩
      · obtain ⟨x, hx, rfl⟩ := List.mem_map.mp hq
        exact ⟨hhs x hx, no (hhs x hx) (fun _ _ _ e => nomatch e)⟩
    have z0 := Hs.anyM (a := a) (o := .ins c.p dx []) (L := LB) (H := H) ha (fun q hq => (hLB q hq).1) (fun q hq => (hLB q hq).2)
    with_reducible refine wb_go (L := _) (σ := [some (.ref a), some (.ref l), some (.ref wl), some (.ref fl), none, none, none, none, none, none, none]) ?e z0 ?_
    (case e => rfl)
    fail "x"
    refine rs_cLines (ps := ps) (.there hLl) hLp.there n0 n1 hok hfit ?_
    fail "x"
    rw [lnl]
    refine rs_cWishes (ls := ls) (.there hLw) hLs.there n2 (fun p hp => ?_) ?_
    · obtain ⟨a1, a2, a3, a4, a5⟩ := hwi p hp
      exact ⟨a1, a2, a3, a4, a5⟩
    fail "x"
    refine rs_cFixed (hs := hs) (ps := ps) (.there hLf) hLh.there (.there hLl) hLp.there n3 hnd hfx ?_
    fail "x"
    refine rc_list (.there hLl) ?_
    intro l2 nl2
    fail "x"
    refine lset (.there .here) (.inr rfl) cl na0 (by simp) (by simp) ?_
    fail "x"
    refine rc_list (.there (.there hLw)) ?_
    intro w2 nw2
    fail "x"
    refine lset (.there (.there .here)) (.inr rfl) cl na1 (by simp only [List.nil_append, List.cons_append, List.forall_mem_cons]; exact ⟨by decide +kernel, fun _ h => nomatch h⟩) (by simp) ?_
    fail "x"
    obtain ⟨fs, efs⟩ : ∃ fs : List (Str × V), fs = ([("_lines", V.ref l2), ("_wishes", V.ref w2)] : List (Str × V)) := ⟨_, rfl⟩
    obtain ⟨L1, eL1⟩ : ∃ L1 : LL, L1 = (w2, .lst (ls.map T3w.v)) :: (l2, .lst (ps.map T2.v)) :: (a, .ins c.p dx fs) :: LB := ⟨_, rfl⟩
    refine ke_subP (L' := L1) (L'' := L1) (.refl _) (by rw [eL1, efs]; exact .refl _) ?_
    have iF1 : At L1 fl (.lst (hs.map T2.v)) := by rw [eL1]; exact .there (.there (.there hLf))
    have iH1 : Alls T2.o L1 hs := by rw [eL1]; exact hLh.there.there.there
    refine Body.dc bd ns [("i", 6), ("at", 7)] ⟨rfl, by decide +kernel, by decide +kernel, by decide +kernel, by decide +kernel⟩ (by intro _; rfl) ?_
    refine Body.kdc bd ns [("i", 6), ("at", 7)] ["i", "at"] ["i", "at"] (by decide +kernel) (by decide +kernel) (by decide +kernel) ?_
    refine ki_list ?_
    fail "x"
    refine ⟨fl, _, rfl, iF1, fun J wk D nD => ⟨_, _, _, fun i L => L = (D, .dK ((hs.take i).map fxK)) :: L1, wk, rfl, fun i L hi e => by rw [e]; exact .there iF1, ?_, ?_⟩⟩
    · rintro i x L L' hi rfl ⟨rfl, hy⟩ B bB nB
      rw [List.getElem?_map] at hy
      obtain ⟨h, hh, rfl⟩ := Option.map_eq_some_iff.mp hy
      have hm := List.mem_of_getElem? hh
      have ih : At ((D, .dK ((hs.take i).map fxK)) :: L1) h.a (.tup [.int h.x, .int h.y]) := .there (iH1 h hm)
      have nm1 := bB.nm
      rw [show wipe [some (V.ref a), some (V.ref l), some (V.ref wl), some (V.ref fl), none, none, none, none, none, none, none] _ = [some (V.ref a), some (V.ref l), some (V.ref wl), some (V.ref fl), none, none, none, none, none, none, none] from rfl]
      fail "x"
      intro B2 bB2
      refine kf_nil ?_
      rw [if_pos rfl]
      intro B3 bB3
      have nm3 := bB3.nm
      fail "x"
      intro B4 bB4
      have nm4 := bB4.nm
      fail "x"
      have hl40 : (hs.take i).length ≤ 40 := Nat.le_trans (List.length_take_le' _ _) n3
      refine ⟨_, _, _, rfl, .here, by rw [List.length_map]; exact Nat.lt_of_le_of_lt (show (hs.take i).length ≤ 1000 by omega) (szl1000 rfl), _, _, .refl _, .refl _, ?_⟩
      show (D, HO.dK (putK ((hs.take i).map fxK) (.inl h.x) (.int h.y))) :: L1 = (D, .dK ((hs.take (i + 1)).map fxK)) :: L1
      rw [putK_new, List.take_add_one, hh, List.map_append]
      · rfl
      · intro q hq e
        obtain ⟨y, hy, rfl⟩ := List.mem_map.mp hq
        have e : y.x = h.x := Sum.inl.inj e
        have nd2 : ((hs.take (i + 1)).map (·.x)).Nodup := hnd.sublist ((List.take_sublist _ _).map _)
        rw [List.take_add_one, hh, List.map_append] at nd2
        exact (List.nodup_append.mp nd2).2.2 y.x (List.mem_map.mpr ⟨y, hy, rfl⟩) h.x (by simp) e
    · rintro L rfl
      rw [List.length_map, List.take_length, eL1, efs]
      fail "x"
      refine lset (.there (.there (.there .here))) (.inr rfl) cl na2 (by simp only [List.forall_mem_cons]; exact ⟨by decide +kernel, by decide +kernel, fun _ h => nomatch h⟩) (by simp) ?_
      refine kb_sub (L' := (D, .dK (hs.map fxK)) :: (w2, .lst (ls.map T3w.v)) :: (l2, .lst (ps.map T2.v)) :: (a, .ins c.p dx (plan3 (.ref l2) (.ref w2) (.ref D))) :: LB) (.refl _) ?_
      fail "x"
      refine ⟨a, c.p, dx, _, .ref D, rfl, .there (.there (.there .here)), cl, na2, lk_pf3, ?_⟩
      fail "x"
      refine rc_listD bd.calm .here ?_
      intro q1 nq1
      rw [show (hs.map fxK).map (fun kv => kV kv.1) = (hs.map (·.x)).map V.int by rw [List.map_map, List.map_map]; rfl]
      refine ke_listRg bd.calm (bd.gl rfl) (bd.no (hB _ (by fail "mem"))) (bd.gl rfl) (bd.no (hB _ (by fail "mem"))) rfl rfl ?_
      have hLl' : At ((q1, HO.lst ((hs.map (·.x)).map V.int)) :: (D, HO.dK (List.map fxK hs)) :: (w2, HO.lst (List.map T3w.v ls)) :: (l2, HO.lst (List.map T2.v ps)) :: (a, HO.ins c.p dx (plan3 (.ref l2) (.ref w2) (.ref D))) :: LB) l (.lst (ps.map T2.v)) := .there (.there (.there (.there (.there hLl))))
      fail "x"
      rw [lnl]
      refine ⟨by omega, by omega, ?_⟩
      intro q2 nq2
      refine ro_cat (.there .here) .here ?_ ?_
      · rw [List.length_map, List.length_map, List.length_map]
        have e : (rgI (ps.length : Int)).length = ps.length := by simp [rgI]
        rw [e]
        exact Nat.le_trans (show hs.length + ps.length ≤ 1000 by omega) (by decide +kernel)
      intro q3 nq3
      rw [← List.map_append]
      fail "x"
      obtain ⟨L4, eL4⟩ : ∃ L4 : LL, L4 = (q3, .lst ((startsOf ps hs).map V.int)) :: (D, HO.dK (List.map fxK hs)) :: (w2, HO.lst (List.map T3w.v ls)) :: (l2, HO.lst (List.map T2.v ps)) :: (a, HO.ins c.p dx (plan3 (.ref l2) (.ref w2) (.ref D))) :: LB := ⟨_, rfl⟩
      refine ke_subP (L' := L4) (L'' := L4) (.refl _) (by rw [eL4]; exact .cons₂ _ (.cons _ (.cons _ (.refl _)))) ?_
      have iL4 : At L4 l (.lst (ps.map T2.v)) := by rw [eL4]; exact .there (.there (.there (.there (.there hLl))))
      have iP4 : Alls T2.o L4 ps := by rw [eL4]; exact hLp.there.there.there.there.there
      refine Body.siL T2.v (·.x) bd ns [("every", 9), ("ride", 10)] ["every", "ride"] ["every", "ride"] ⟨rfl, by decide +kernel, by decide +kernel, by decide +kernel, by decide +kernel⟩ (by decide +kernel) (by decide +kernel) (by decide +kernel) (by intro _; rfl) ?_
      fail "x"
      refine ⟨l, ps, rfl, iL4, by omega, fun x hx D2 acc nD2 B bB nB => ?_, fun D2 cc nD2 hc hn => ?_⟩
      · rw [show wipe [some (V.ref a), some (V.ref l), some (V.ref wl), some (V.ref fl), some (V.ref q3), none, none, none, none, none, none] _ = [some (V.ref a), some (V.ref l), some (V.ref wl), some (V.ref fl), some (V.ref q3), none, none, none, none, none, none] from rfl]
        have nm1 := bB.nm
        have ix : At L4 x.a (.tup [.int x.x, .int x.y]) := iP4 x hx
        fail "x"
        intro B2 bB2
        have nm2 := bB2.nm
        fail "x"
        exact .refl _
      fail "x"
      refine rc_sortSet (c := cc) bd.calm (by rw [bd.w]; exact .here) (by omega) ?_
      intro ms q4 hasc hms nq4
      fail "x"
      obtain ⟨L5, eL5⟩ : ∃ L5 : LL, L5 = (q4, .lst (ms.map V.int)) :: L4 := ⟨_, rfl⟩
      refine ke_subP (L' := L5) (L'' := L5) (.refl _) ?_ ?_
      · rw [eL5]; exact .cons₂ _ (.cons _ (.refl _))
      have iM5 : At L5 q4 (.lst (ms.map V.int)) := by rw [eL5]; exact .here
      have iS5 : At L5 q3 (.lst ((startsOf ps hs).map V.int)) := by rw [eL5, eL4]; exact .there .here
      have iA5 : At L5 a (.ins c.p dx (plan3 (.ref l2) (.ref w2) (.ref D))) := by rw [eL5, eL4]; exact .there (.there (.there (.there (.there .here))))
      have iL5 : At L5 l2 (.lst (ps.map T2.v)) := by rw [eL5, eL4]; exact .there (.there (.there (.there .here)))
      have iW5 : At L5 w2 (.lst (ls.map T3w.v)) := by rw [eL5, eL4]; exact .there (.there (.there .here))
      have iP5 : Alls T2.o L5 ps := by rw [eL5]; exact iP4.there
      have iQ5 : Alls T3w.o L5 ls := by rw [eL5, eL4]; exact hLs.there.there.there.there.there.there
      refine Body.lc bd ns [("modulus", 8)] ["modulus", "self", "starts"] ["modulus"] ⟨rfl, by decide +kernel, by decide +kernel, by decide +kernel, by decide +kernel⟩ (by decide +kernel) (by decide +kernel) (by decide +kernel) (by intro _; rfl) ?_
      refine ki_list ?_
      fail "x"
      refine ⟨q4, _, rfl, iM5, fun J wk G nG => ⟨_, _, _, fun i L => ∃ lvs : List Lv, ((G, HO.lst (lvs.map Lv.v)) :: (lvs.flatMap (Lv.os c) ++ L5)).Perm L ∧ lvs.map (·.m) = ms.take i ∧ (∀ q ∈ lvs, LvFull ps ls hs q) ∧ ∀ q ∈ lvs.flatMap (Lv.os c), H q.1 = none, wk, ⟨[], .refl _, rfl, by simp, by simp⟩, ?_, ?_, ?_⟩⟩
      · rintro i L - ⟨lvs, pm, -⟩
        exact .of_mem (pm.mem_iff.mp (List.mem_cons_of_mem _ (List.mem_append_right _ iM5.mem)))
      · rintro i x L L' hi ⟨lvs, pm, em, hfull, hfr⟩ ⟨rfl, hy⟩ B bB nB
        rw [List.getElem?_map] at hy
        obtain ⟨m, hm, rfl⟩ := Option.map_eq_some_iff.mp hy
        rw [show wipe [some (V.ref a), some (V.ref l), some (V.ref wl), some (V.ref fl), some (V.ref q3), some (V.ref q4), none, none, none, none, none] _ = [some (V.ref a), some (V.ref l), some (V.ref wl), some (V.ref fl), some (V.ref q3), some (V.ref q4), none, none, none, none, none] from rfl]
        have nm1 := bB.nm
        fail "x"
        intro B2 bB2
        refine kf_nil ?_
        rw [if_pos rfl]
        intro B3 bB3
        have nm3 := bB3.nm
        have cl3 : Cls B3.K c.p := by rw [bB3.K]; exact T.cls_p
        have nb0 : NoAttr B3.K c.p "_lines" := by rw [bB3.K]; exact T.na_p_lines
        have nb1 : NoAttr B3.K c.p "_wishes" := by rw [bB3.K]; exact T.na_p_wishes
        refine ke_subP pm (.refl _) ?_
        fail "x"
        refine ⟨a, c.p, dx, _, _, rfl, .there (.app_r iA5), cl3, nb0, lk_pl3, ?_⟩
        fail "x"
        refine ⟨a, c.p, dx, _, _, rfl, .there (.app_r iA5), cl3, nb1, lk_pw3, ?_⟩
        fail "x"
        rename_i y dy ny ndy
        have hst0 : ∀ i : Nat, i < ps.length → (i : Int) ∈ startsOf ps hs := fun i hi => List.mem_append_right _ (by
          rw [show rgI (ps.length : Int) = (List.range ps.length).map Int.ofNat by simp [rgI]]
          exact List.mem_map.mpr ⟨i, List.mem_range.mpr hi, rfl⟩)
        refine rs_LevelI .here (.inl ny) (.there (.there (.there (.app_r iL5)))) (fun x hx => .there (.there (.there (.app_r (iP5 x hx))))) (.there (.there (.there (.app_r iW5)))) (fun x hx => .there (.there (.there (.app_r (iQ5 x hx))))) (.there (.there (.there (.app_r iS5)))) n1 n2 hwi hst0 ?_
        intro R1 R2 R3 pws TT lv hall htup nR1 nR2 nR3 nP nT
        obtain ⟨q0, eq0⟩ : ∃ q0 : Lv, q0 = ⟨y, dy, m, R1, R2, R3, pws, TT⟩ := ⟨_, rfl⟩
        have hlm : lvs.length ≤ 40 := by
          have e := congrArg List.length em
          rw [List.length_map] at e
          rw [e]
          refine Nat.le_trans (List.length_take_le' _ _) ?_
          have := List.Nodup.length_le_of_subset (hasc.imp (fun {a b} (h : a < b) => (Int.ne_of_lt h))) (l₂ := ps.map (·.x)) (fun j hj => (hms j).mp hj)
          rw [List.length_map] at this
          omega
        refine ⟨rfl, _, _, Spot.app_r2 (.there (.there .here)), by rw [List.length_map]; exact Nat.lt_of_le_of_lt (show lvs.length ≤ 1000 by omega) (szl1000 rfl), ((R1, .dK (pws.map Pw.kr)) :: (R2, .dK (pws.map Pw.ko)) :: (R3, .dK (pws.map Pw.kw)) :: (pws.map Pw.ob ++ TT)) ++ ((y, levelO c.l dy m R1 R2 R3) :: (G, HO.lst (lvs.map Lv.v ++ [.ref y])) :: (lvs.flatMap (Lv.os c) ++ L5)), ?_, lvs ++ [q0], ?_, ?_, ?_, ?_⟩
        · exact .append (.refl _) (.cons₂ _ (.cons _ (.refl _)))
        · rw [List.map_append, List.flatMap_append, List.flatMap_singleton, show [q0].map Lv.v = [.ref y] by rw [eq0]; rfl]
          have e0 : Lv.os c q0 = (y, levelO c.l dy m R1 R2 R3) :: ((R1, .dK (pws.map Pw.kr)) :: (R2, .dK (pws.map Pw.ko)) :: (R3, .dK (pws.map Pw.kw)) :: (pws.map Pw.ob ++ TT)) := by rw [eq0]
          obtain ⟨N, eN⟩ : ∃ N : LL, N = (R1, .dK (pws.map Pw.kr)) :: (R2, .dK (pws.map Pw.ko)) :: (R3, .dK (pws.map Pw.kw)) :: (pws.map Pw.ob ++ TT) := ⟨_, rfl⟩
          rw [← eN] at e0 ⊢
          rw [e0]
          refine List.Perm.symm (List.perm_middle.trans ((List.Perm.cons _ List.perm_middle).trans ((List.Perm.swap _ _ _).trans (.cons _ ?_))))
          rw [← List.cons_append, ← List.append_assoc]
          exact List.perm_append_comm.append_right L5
        · rw [List.map_append, em, List.take_add_one, hm, eq0]; rfl
        · intro q hq
          rcases List.mem_append.mp hq with hq | hq
          · exact hfull q hq
          · rw [List.mem_singleton.mp hq, eq0]
            exact ⟨lv, hall, htup⟩
        · intro q hq
          rw [List.flatMap_append, List.flatMap_singleton] at hq
          rcases List.mem_append.mp hq with hq | hq
          · exact hfr q hq
          · rw [eq0] at hq
            rcases List.mem_cons.mp hq with rfl | hq
            · exact ny
            rcases List.mem_cons.mp hq with rfl | hq
            · exact nR1
            rcases List.mem_cons.mp hq with rfl | hq
            · exact nR2
            rcases List.mem_cons.mp hq with rfl | hq
            · exact nR3
            rcases List.mem_append.mp hq with hq | hq
            · obtain ⟨p, hp, rfl⟩ := List.mem_map.mp hq
              exact nP p hp
            · exact nT q hq
      · rintro L ⟨lvs, pm, em, hfull, hfr⟩
        rw [List.length_map, List.take_length] at em
        refine ke_subP pm (.refl _) ?_
        fail "x"
        rw [eL5, eL4]
        refine lset (Spot.app_r2 (A := (G, .lst (lvs.map Lv.v)) :: lvs.flatMap (Lv.os c)) (.there (.there (.there (.there (.there .here)))))) (.inr rfl) cl na3 (by simp only [List.forall_mem_cons]; exact ⟨by decide +kernel, by decide +kernel, by decide +kernel, fun _ h => nomatch h⟩) (by simp) ?_
        refine kb_nil (.refl _) fun H' z => ?_
        have z1 : Hs H (fun x => x = a) (planN c l2 w2 D G ps ls hs lvs) H' := by
          refine (z.sub (L' := ((G, .lst (lvs.map Lv.v)) :: lvs.flatMap (Lv.os c)) ++ [(D, .dK (hs.map fxK)), (w2, .lst (ls.map T3w.v)), (l2, .lst (ps.map T2.v))]) ?_).perm ?_
          · exact .append (.refl _) (.cons _ (.cons _ (.cons₂ _ (.cons₂ _ (.cons₂ _ (.cons _ (List.nil_sublist _)))))))
          · exact perm3.trans (List.perm_append_comm (l₁ := [(D, HO.dK (hs.map fxK)), (w2, HO.lst (ls.map T3w.v)), (l2, HO.lst (ps.map T2.v))]))
        have hnew : ∀ q ∈ planN c l2 w2 D G ps ls hs lvs, H q.1 = none := fun q hq => by
          rcases List.mem_cons.mp hq with rfl | hq
          · exact nl2
          rcases List.mem_cons.mp hq with rfl | hq
          · exact nw2
          rcases List.mem_cons.mp hq with rfl | hq
          · exact nD
          rcases List.mem_cons.mp hq with rfl | hq
          · exact nG
          · exact hfr q hq
        exact k l2 w2 D G lvs ⟨ok0, by rw [em]; exact hasc, fun m => by rw [em]; exact hms m, hfull⟩ hnew H' (z.chg0 (.of_mem (List.mem_append_right _ (by simp))) (z1.newsS (.refl _) hnew)))
end

local macro_rules | `(tactic| fail "lvk") => `(tactic| first
  | ((with_reducible show ∃ _, _); (with_reducible apply pfld_l); (fail "at"); (with_reducible assumption); (with_reducible assumption))
  | ((with_reducible show ∃ _, _); (with_reducible apply pfld_w); (fail "at"); (with_reducible assumption); (with_reducible assumption))
  | ((with_reducible show ∃ _, _); (with_reducible apply pfld_f); (fail "at"); (with_reducible assumption); (with_reducible assumption))
  | ((with_reducible show ∃ _, _); (with_reducible apply pfld_v); (fail "at"); (with_reducible assumption); (with_reducible assumption))
  | ((with_reducible show ∃ _, _); (with_reducible apply precv); (fail "at"); (decide +kernel); (decide +kernel); (decide +kernel); (decide +kernel)))
local macro_rules | `(tactic| fail "x") => `(tactic| repeat first | fail "lvk" | fail "1")
section
variable {P : Program} {w : World} {K : PySem.W.Frag} {mg : Str → Option Value} {base : Heap} {c : Cp}
abbrev planL (c : Cp) (a dx l w f v : Addr) (ps : List T2) (ls : List T3w) (hs : List T2) (lvs : List Lv) : LL := (a, planO c.p dx l w f v) :: (planN c l w f v ps ls hs lvs ++ (ps.map T2.o ++ ls.map T3w.o))
/-- a plan stands there -/
structure PlanH (c : Cp) (G : Kn) (a : Addr) (ps : List T2) (ls : List T3w) (hs : List T2) (lvs : List Lv) : Prop where
  ok : PlanOk ps ls hs lvs
  at_ : ∃ dx l w f v, ∀ q ∈ planL c a dx l w f v ps ls hs lvs, G q.1 q.2
theorem PlanH.imp {G G' : Kn} {a : Addr} {ps : List T2} {ls : List T3w} {hs : List T2} {lvs : List Lv} (h : PlanH c G a ps ls hs lvs) (i : ∀ a o, G a o → G' a o) : PlanH c G' a ps ls hs lvs := by
  obtain ⟨ok, dx, l, w, f, v, h⟩ := h
  exact ⟨ok, dx, l, w, f, v, fun q hq => i _ _ (h q hq)⟩
theorem PlanH.onH {H0 H : Hp} {M : Addr → Prop} {L : LL} {a : Addr} {ps : List T2} {ls : List T3w} {hs : List T2} {lvs : List Lv} (h : PlanH c (At L) a ps ls hs lvs) (z : Hs H0 M L H) : PlanH c (OnH H) a ps ls hs lvs := h.imp fun _ _ e => z.get e
/-- what the methods know at their entry -/
theorem PlanH.use {H : Hp} {a : Addr} {ps : List T2} {ls : List T3w} {hs : List T2} {lvs : List Lv} (h : PlanH c (OnH H) a ps ls hs lvs) : ∃ (dx l w f v : Addr) (LB : LL), At LB a (planO c.p dx l w f v) ∧ At LB l (.lst (ps.map T2.v)) ∧ At LB w (.lst (ls.map T3w.v)) ∧ At LB f (.dK (hs.map fxK)) ∧ At LB v (.lst (lvs.map Lv.v)) ∧ (∀ q ∈ lvs, ∀ y ∈ Lv.os c q, At LB y.1 y.2) ∧ Alls T2.o LB ps ∧ Alls T3w.o LB ls ∧ ∀ q ∈ LB, H q.1 = some q.2 := by
  obtain ⟨_, dx, l, w, f, v, h⟩ := h
  refine ⟨dx, l, w, f, v, _, .here, .there .here, .there (.there .here), .there (.there (.there .here)), .there (.there (.there (.there .here))), fun q hq y hy => ?_, fun x hx => ?_, fun x hx => ?_, h⟩
  · exact .there (.app_l (.there (.there (.there (.there (.of_mem (List.mem_flatMap.mpr ⟨q, hq, hy⟩)))))))
  · exact .of_mem (List.mem_cons_of_mem _ (List.mem_append_right (planN c l w f v ps ls hs lvs) (List.mem_append_left _ (List.mem_map.mpr ⟨x, hx, rfl⟩))))
  · exact .of_mem (List.mem_cons_of_mem _ (List.mem_append_right (planN c l w f v ps ls hs lvs) (List.mem_append_right _ (List.mem_map.mpr ⟨x, hx, rfl⟩))))
/-- a wish holds -/
def HoldsW (ps : List T2) (is : List Int) (x y z : Int) : Prop := ∀ p q t u, ps[x.toNat]? = some p → ps[y.toNat]? = some q → is[x.toNat]? = some t → is[y.toNat]? = some u → (t + p.y + z - u) % (if q.x < p.x then q.x else p.x) = 0
structure IsTT (ps : List T2) (ls : List T3w) (hs : List T2) (is : List Int) : Prop where
  len : is.length = ps.length
  rng : ∀ (k : Nat) (p : T2) (t : Int), ps[k]? = some p → is[k]? = some t → 0 ≤ t ∧ t < p.x
  fix : ∀ h ∈ hs, is[h.x.toNat]? = some h.y
  wish : ∀ u ∈ ls, HoldsW ps is u.x u.y u.z
def spHolds (c : Cp) : Sp := fun vs H Q _ => ∃ (a b tl : Addr) (ps : List T2) (ls : List T3w) (hs : List T2) (lvs : List Lv) (x y z : Int) (is : List Int), vs = [.ref a, .ref b, .ref tl] ∧ PlanH c (OnH H) a ps ls hs lvs ∧ H b = some (.tup [.int x, .int y, .int z]) ∧ 0 ≤ x ∧ x < ps.length ∧ 0 ≤ y ∧ y < ps.length ∧ H tl = some (.lst (is.map V.int)) ∧ is.length = ps.length ∧
  ∀ r : Bool, (r = true ↔ HoldsW ps is x y z) → RetP H Q (.bl r) []
theorem rs_holds {H0 : Hp} {M : Addr → Prop} {L : LL} {Q : V → LL → Prop} {E : XK} {a b tl : Addr} {ps : List T2} {ls : List T3w} {hs : List T2} {lvs : List Lv} {x y z : Int} {is : List Int} (pl : PlanH c (At L) a ps ls hs lvs) (ib : At L b (.tup [.int x, .int y, .int z])) (h1 : 0 ≤ x) (h2 : x < ps.length) (h3 : 0 ≤ y) (h4 : y < ps.length) (il : At L tl (.lst (is.map V.int))) (hl : is.length = ps.length)
    (h : ∀ r : Bool, (r = true ↔ HoldsW ps is x y z) → Q (.bl r) L) : rs H0 M (spHolds c) E [.ref a, .ref b, .ref tl] L Q :=
  fun H w => ⟨a, b, tl, ps, ls, hs, lvs, x, y, z, is, rfl, pl.onH w, w.get ib, h1, h2, h3, h4, w.get il, hl, fun r e => w.p0 (h r e)⟩
theorem rs_holds0 {H0 : Hp} {L : LL} {Q : V → LL → Prop} {E : XK} {a b tl : Addr} {ps : List T2} {ls : List T3w} {hs : List T2} {lvs : List Lv} {x y z : Int} {is : List Int} (pl : PlanH c (OnH H0) a ps ls hs lvs) (ib : At L b (.tup [.int x, .int y, .int z])) (h1 : 0 ≤ x) (h2 : x < ps.length) (h3 : 0 ≤ y) (h4 : y < ps.length) (il : At L tl (.lst (is.map V.int))) (hl : is.length = ps.length)
    (h : ∀ r : Bool, (r = true ↔ HoldsW ps is x y z) → Q (.bl r) L) : rs H0 (fun _ => False) (spHolds c) E [.ref a, .ref b, .ref tl] L Q :=
  fun H w => ⟨a, b, tl, ps, ls, hs, lvs, x, y, z, is, rfl, pl.imp fun _ _ e => w.ext0 _ _ e, w.get ib, h1, h2, h3, h4, w.get il, hl, fun r e => w.p0 (h r e)⟩
noncomputable def holdsB (ps : List T2) (is : List Int) (u : T3w) : Bool := @decide (HoldsW ps is u.x u.y u.z) (Classical.propDecidable _)
theorem holdsB_iff {ps : List T2} {is : List Int} {u : T3w} : holdsB ps is u = true ↔ HoldsW ps is u.x u.y u.z := by unfold holdsB; exact @decide_eq_true_iff _ (Classical.propDecidable _)
theorem ok_holdsM (T : Tx P K mg c) : MethT P w K mg base CX0 2 (Is1 c.p) "_holds" (spHolds c) :=
  T.Plan_holds.ok (fun C h => by rw [h]; exact T.cls_p) bi_Plan_holds fun f fd F => fk_body F sc_Plan_holds lo_Plan_holds pl_Plan_holds (by (conv => lhs; whnf)) (fun vs H Q E h => by obtain ⟨a, b, tl, ps, ls, hs, lvs, x, y, z, is, rfl, _⟩ := h; rfl) (fun X bd ns H vs Q E h => by
    obtain ⟨a, b, tl, ps, ls, hs, lvs, x, y, z, is, rfl, pl, hb, h1, h2, h3, h4, htl, hli, k⟩ := h
    have nm := bd.nm
    have hB := T.blt
    have cl : Cls X.K c.p := by rw [bd.K]; exact T.cls_p
    have na0 : NoAttr X.K c.p "_lines" := by rw [bd.K]; exact T.na_p_lines
    have d1 := ok_shift_of (P := P) (w := w) (base := base) T
    obtain ⟨dx, l, w', f', v, LB, iA, iL, iW, iF, iV, iVs, iP, iQ, hLB⟩ := pl.use
    obtain ⟨i, rfl⟩ := Int.eq_ofNat_of_zero_le h1
    obtain ⟨j, rfl⟩ := Int.eq_ofNat_of_zero_le h3
    obtain ⟨p, hp⟩ : ∃ p, ps[i]? = some p := ⟨_, List.getElem?_eq_getElem (by omega)⟩
    obtain ⟨q, hq⟩ : ∃ p, ps[j]? = some p := ⟨_, List.getElem?_eq_getElem (by omega)⟩
    obtain ⟨t, ht⟩ : ∃ p, is[i]? = some p := ⟨_, List.getElem?_eq_getElem (by omega)⟩
    obtain ⟨u, hu⟩ : ∃ p, is[j]? = some p := ⟨_, List.getElem?_eq_getElem (by omega)⟩
    have hpp := (pl.ok.ok p (List.mem_of_getElem? hp)).1
    have hqp := (pl.ok.ok q (List.mem_of_getElem? hq)).1
    with_reducible refine wb_go (M := fun _ => False) (L := (b, .tup [.int i, .int j, .int z]) :: (tl, .lst (is.map V.int)) :: LB) (σ := [some (.ref a), some (.ref b), some (.ref tl), none, none, none, none]) ?e (.any ?h1) ?_
    (case e => rfl)
    (case h1 =>
      intro q hq
      rcases List.mem_cons.mp hq with rfl | hq
      · exact hb
      rcases List.mem_cons.mp hq with rfl | hq
      · exact htl
      exact hLB q hq)
    have iA1 : At ((b, .tup [.int i, .int j, .int z]) :: (tl, .lst (is.map V.int)) :: LB) a (planO c.p dx l w' f' v) := .there (.there iA)
    have iP1 : At ((b, .tup [.int i, .int j, .int z]) :: (tl, .lst (is.map V.int)) :: LB) p.a (.tup [.int p.x, .int p.y]) := .there (.there (iP p (List.mem_of_getElem? hp)))
    have iP2 : At ((b, .tup [.int i, .int j, .int z]) :: (tl, .lst (is.map V.int)) :: LB) q.a (.tup [.int q.x, .int q.y]) := .there (.there (iP q (List.mem_of_getElem? hq)))
    fail "x"
    refine ix_lst (v := .int t) (by fail "at") (atI_nat rfl (by rw [List.getElem?_map, ht]; rfl)) ?_
    fail "x"
    refine rs_shift (ps := ps) (p := p) (.there (.there iL)) iP1 .here (by omega) hp ?_
    fail "x"
    refine ix_lst (v := .int u) (by fail "at") (atI_nat rfl (by rw [List.getElem?_map, hu]; rfl)) ?_
    fail "x"
    refine ix_lst (v := p.v) (.there (.there iL)) (atI_nat rfl (by rw [List.getElem?_map, hp]; rfl)) ?_
    fail "x"
    refine ix_tp (p := p.a) (xs := [.int p.x, .int p.y]) iP1 (v := .int p.x) (i := 0) (by rfl) ?_
    fail "x"
    refine ix_lst (v := q.v) (.there (.there iL)) (atI_nat rfl (by rw [List.getElem?_map, hq]; rfl)) ?_
    fail "x"
    refine ix_tp (p := q.a) (xs := [.int q.x, .int q.y]) iP2 (v := .int q.x) (i := 0) (by rfl) ?_
    fail "x"
    refine fun H' z0 => (k _ ?_).e0 z0
    rw [decide_eq_true_eq]
    constructor
    · intro e p' q' t' u' e1 e2 e3 e4
      rw [show ((i : Int).toNat) = i from rfl] at e1 e3
      rw [show ((j : Int).toNat) = j from rfl] at e2 e4
      rw [hp] at e1; rw [hq] at e2; rw [ht] at e3; rw [hu] at e4
      cases e1; cases e2; cases e3; cases e4
      rw [← e]
      congr 1
      omega
    · intro e
      rw [← e p q t u hp hq ht hu]
      congr 1
      omega)
/-- a value of any kind -/
inductive Pk (G : Kn) : V → String → Prop
  | non : Pk G .non "NoneType"
  | bl (b : Bool) : Pk G (.bl b) "bool"
  | int (i : Int) : Pk G (.int i) "int"
  | str (s : Str) : Pk G (.str s) "str"
  | lst {a : Addr} {xs : List V} (e : G a (.lst xs)) : Pk G (.ref a) "list"
  | tup {a : Addr} {xs : List V} (e : G a (.tup xs)) : Pk G (.ref a) "tuple"
  | dK {a : Addr} {kvs : List (Key × V)} (e : G a (.dK kvs)) : Pk G (.ref a) "dict"
theorem Pk.imp {G G' : Kn} {x : V} {t : String} (h : Pk G x t) (i : ∀ a o, G a o → G' a o) : Pk G' x t := by
  cases h with
  | non => exact .non
  | bl => exact .bl _
  | int => exact .int _
  | str => exact .str _
  | lst e => exact .lst (i _ _ e)
  | tup e => exact .tup (i _ _ e)
  | dK e => exact .dK (i _ _ e)
theorem Pk.pv {H : Hp} {x : V} {t : String} (h : Pk (OnH H) x t) : Pv H x t := by
  cases h with
  | non => exact .non
  | bl => exact .bl _
  | int => exact .int _
  | str => exact .str _
  | lst e => exact .lst e
  | tup e => exact .tup e
  | dK e => exact .dK e
theorem Pk.pvs {H0 : Hp} {M : Addr → Prop} {L : LL} {x : V} {t : String} (h : Pk (At L) x t) : ∀ H, Hs H0 M L H → Pv H x t := fun _ z => (h.imp fun _ _ e => z.get e).pv
theorem Hs.only {H0 H : Hp} {M : Addr → Prop} {L L' : LL} (z : Hs H0 M L H) (h : ∀ q ∈ L', At L q.1 q.2) (n : ∀ q ∈ L', H0 q.1 ≠ none ∧ ¬ M q.1) : Hs H0 M L' H := ⟨by
  rw [List.pairwise_map]
  exact List.pairwise_of_forall_mem_list (fun q hq r _ => .inr (n q hq)), fun q hq => z.get (h q hq), z.fr, z.md⟩
theorem ke_only {X : Cx} {H0 : Hp} {M : Addr → Prop} {e : Expr} {σ : L2.St} {L L' : LL} {Q : V → LL → Prop} (h : ∀ q ∈ L', At L q.1 q.2) (n : ∀ q ∈ L', H0 q.1 ≠ none ∧ ¬ M q.1) (k : ke X H0 M e σ L' Q) : ke X H0 M e σ L Q := fun H z => k H (Hs.only z h n)
/-- the fixed departures, asked of a list -/
def fxB (is : List Int) (kv : Key × V) : V := match kv with
  | (.inl i, .int y) => .bl (decide (is[i.toNat]? = some y))
  | _ => .non
theorem below_ints : ∀ {xs : List V} {ps : List T2}, xs.length = ps.length → ((xs.zip ps).map fun z => belowV z.1 z.2.x).all id = true → ∃ is : List Int, xs = is.map V.int ∧ ∀ (k : Nat) (p : T2) (t : Int), ps[k]? = some p → is[k]? = some t → 0 ≤ t ∧ t < p.x
  | [], [], _, _ => ⟨[], rfl, by simp⟩
  | [], _ :: _, e, _ => by simp at e
  | _ :: _, [], e, _ => by simp at e
  | x :: xs, p :: ps, e, h => by
    rw [List.zip_cons_cons, List.map_cons, List.all_cons, Bool.and_eq_true] at h
    obtain ⟨is, e1, h1⟩ := below_ints (xs := xs) (ps := ps) (by simpa using e) h.2
    have h0 : belowV x p.x = true := h.1
    cases x with
    | int i =>
      have h0 : (decide (0 ≤ i) && decide (i < p.x)) = true := h0
      rw [Bool.and_eq_true, decide_eq_true_eq, decide_eq_true_eq] at h0
      refine ⟨i :: is, by rw [e1]; rfl, fun k q t hq ht => ?_⟩
      cases k with
      | zero => cases hq; cases ht; exact h0
      | succ k => exact h1 k q t hq ht
    | _ => cases h0
theorem ints_below : ∀ {is : List Int} {ps : List T2}, (∀ (k : Nat) (p : T2) (t : Int), ps[k]? = some p → is[k]? = some t → 0 ≤ t ∧ t < p.x) → (((is.map V.int).zip ps).map fun z => belowV z.1 z.2.x).all id = true
  | [], _, _ => by simp
  | _ :: _, [], _ => by simp
  | i :: is, p :: ps, h => by
    rw [List.map_cons, List.zip_cons_cons, List.map_cons, List.all_cons, ints_below (fun k q t a b => h (k + 1) q t a b)]
    obtain ⟨a, b⟩ := h 0 p i rfl rfl
    show (decide (0 ≤ i) && decide (i < p.x) && true) = true
    rw [decide_eq_true a, decide_eq_true b]
    rfl
/-- any object; if a list: what stands in it -/
structure AnyV (G : Kn) (x : V) : Prop where
  ty : ∃ t, Pk G x t
  ls : ∀ b xs, x = .ref b → G b (.lst xs) → xs.length ≤ 1000 ∧ ∀ y ∈ xs, ∃ t, Pk G y t
/-- x is a timetable -/
def TTv (G : Kn) (ps : List T2) (ls : List T3w) (hs : List T2) (x : V) : Prop := ∃ b is, x = .ref b ∧ G b (.lst (is.map V.int)) ∧ IsTT ps ls hs is
def spIsTT (c : Cp) : Sp := fun vs H Q _ => ∃ (a : Addr) (ps : List T2) (ls : List T3w) (hs : List T2) (lvs : List Lv) (x : V), vs = [.ref a, x] ∧ PlanH c (OnH H) a ps ls hs lvs ∧ AnyV (OnH H) x ∧ ∀ r : Bool, (r = true ↔ TTv (OnH H) ps ls hs x) → RetP H Q (.bl r) []
theorem fk_isTT (T : Tx P K mg c) : ∀ f fd, Fun K "is_timetable" "Plan.is_timetable" s_Plan_is_timetable f fd → Fk P w K mg base CX0 4 f fd ["self", "thing"] (spIsTT c) :=
  fun f fd F => fk_body F sc_Plan_is_timetable lo_Plan_is_timetable pl_Plan_is_timetable (by (conv => lhs; whnf)) (fun vs H Q E h => by obtain ⟨a, ps, ls, hs, lvs, x, rfl, _⟩ := h; rfl) (fun X bd ns H vs Q E h => by
    obtain ⟨a, ps, ls, hs, lvs, x, rfl, pl, av, k⟩ := h
    have nm := bd.nm
    have hB := T.blt
    have cl : Cls X.K c.p := by rw [bd.K]; exact T.cls_p
    have na0 : NoAttr X.K c.p "_lines" := by rw [bd.K]; exact T.na_p_lines
    have na1 : NoAttr X.K c.p "_wishes" := by rw [bd.K]; exact T.na_p_wishes
    have na2 : NoAttr X.K c.p "_fixed" := by rw [bd.K]; exact T.na_p_fixed
    have d1 := ok_below (P := P) (w := w) (base := base) T
    have d2 := ok_holdsM (P := P) (w := w) (base := base) T
    obtain ⟨dx, l, w', f', v, LB, iA, iL, iW, iF, iV, iVs, iP, iQ, hLB⟩ := pl.use
    obtain ⟨t, ht⟩ := av.ty
    have nt : t ≠ "list" → ∀ b xs, x = .ref b → H b ≠ some (.lst xs) := fun ne b xs e1 e2 => by
      subst e1
      cases ht with
      | lst e => exact ne rfl
      | tup e => rw [show H b = _ from e] at e2; cases e2
      | dK e => rw [show H b = _ from e] at e2; cases e2
    obtain ⟨EX, hEX, hEl⟩ : ∃ EX : LL, (∀ q ∈ EX, H q.1 = some q.2) ∧ ∀ b xs, x = .ref b → H b = some (.lst xs) → At EX b (.lst xs) := by
      cases ht with
      | @lst b xs e =>
        refine ⟨[(b, .lst xs)], fun q hq => by rw [List.mem_singleton.mp hq]; exact e, fun b' xs' e1 e2 => ?_⟩
        cases e1
        rw [show H b = _ from e] at e2
        cases e2
        exact .here
      | tup e => exact ⟨[], (fun _ h => nomatch h), fun b' xs' e1 e2 => by cases e1; rw [show H _ = _ from e] at e2; cases e2⟩
      | dK e => exact ⟨[], (fun _ h => nomatch h), fun b' xs' e1 e2 => by cases e1; rw [show H _ = _ from e] at e2; cases e2⟩
      | non => exact ⟨[], (fun _ h => nomatch h), fun b' xs' e1 e2 => nomatch e1⟩
      | bl => exact ⟨[], (fun _ h => nomatch h), fun b' xs' e1 e2 => nomatch e1⟩
      | int => exact ⟨[], (fun _ h => nomatch h), fun b' xs' e1 e2 => nomatch e1⟩
      | str => exact ⟨[], (fun _ h => nomatch h), fun b' xs' e1 e2 => nomatch e1⟩
    with_reducible refine wb_go (M := fun _ => False) (L := EX ++ LB) (σ := [some (.ref a), some x, none, none, none, none]) ?e (.any fun q hq => (List.mem_append.mp hq).elim (hEX q) (hLB q)) ?_
    (case e => rfl)
    have iA1 : At (EX ++ LB) a (planO c.p dx l w' f' v) := .app_r iA
    have iL1 : At (EX ++ LB) l (.lst (ps.map T2.v)) := .app_r iL
    have iW1 : At (EX ++ LB) w' (.lst (ls.map T3w.v)) := .app_r iW
    fail "x"
    refine ke_c (pe_bltn (v := .ty "list") (bd.gl rfl) (bd.no (hB _ (by fail "mem"))) bo_list rfl) ?_
    fail "x"
    have kf : ¬ TTv (OnH H) ps ls hs x → ∀ L H', Hs H (fun _ => False) L H' → Q (.bl false) H' := fun n L H' z => (k false ⟨nofun, fun h => absurd h n⟩).e0 (z.sub (List.nil_sublist _))
    have no : t ≠ "list" → ¬ TTv (OnH H) ps ls hs x := fun ne ⟨b, is, e1, e2, _⟩ => nt ne b _ e1 e2
    cases ht with
    | non =>
      refine rc_isi (.ty "list") (fun H z => .base .non) (kit_ty (b := "list") (r := false) (by decide +kernel)) ?_
      fail "x"
      exact kf (no (by decide)) _
    | bl b =>
      refine rc_isi (.ty "list") (fun H z => .base (.bl _)) (kit_ty (b := "list") (r := false) (by decide +kernel)) ?_
      fail "x"
      exact kf (no (by decide)) _
    | int i =>
      refine rc_isi (.ty "list") (fun H z => .base (.int _)) (kit_ty (b := "list") (r := false) (by decide +kernel)) ?_
      fail "x"
      exact kf (no (by decide)) _
    | str s =>
      refine rc_isi (.ty "list") (fun H z => .base (.str _)) (kit_ty (b := "list") (r := false) (by decide +kernel)) ?_
      fail "x"
      exact kf (no (by decide)) _
    | tup e =>
      refine rc_isi (.ty "list") (fun H' z => .base (.tup (z.ext0 _ _ e))) (kit_ty (b := "list") (r := false) (by decide +kernel)) ?_
      fail "x"
      exact kf (no (by decide)) _
    | dK e =>
      refine rc_isi (.ty "list") (fun H' z => .base (.dK (z.ext0 _ _ e))) (kit_ty (b := "list") (r := false) (by decide +kernel)) ?_
      fail "x"
      exact kf (no (by decide)) _
    | @lst b xs e =>
      clear nt no
      have e : H b = some (.lst xs) := e
      obtain ⟨hxl, hxs⟩ := av.ls b xs rfl e
      refine rc_isi (.ty "list") (fun H' z => .base (.lst (z.ext0 _ _ e))) (kit_ty (b := "list") (r := true) (by decide +kernel)) ?_
      have ib : At (EX ++ LB) b (.lst xs) := .app_l (hEl b xs rfl e)
      fail "x"
      rw [List.length_map]
      have nlen : ¬ (xs.length = ps.length) → ¬ TTv (OnH H) ps ls hs (.ref b) := fun ne ⟨b', is, e1, e2, tt⟩ => by
        cases e1
        rw [show H b = _ from e2] at e
        cases e
        exact ne (by rw [List.length_map]; exact tt.len)
      refine pickB_ndec (fun hne => ?_) (fun hlen => ?_)
      · fail "x"
        exact kf (nlen (by omega)) _
      have hlen : xs.length = ps.length := by omega
      fail "y"
      obtain ⟨L1, eL1⟩ : ∃ L1 : LL, L1 = EX ++ LB := ⟨_, rfl⟩
      have iA2 : At L1 a (planO c.p dx l w' f' v) := by rw [eL1]; exact iA1
      have iL2 : At L1 l (.lst (ps.map T2.v)) := by rw [eL1]; exact iL1
      have ib2 : At L1 b (.lst xs) := by rw [eL1]; exact ib
      have iP2 : Alls T2.o L1 ps := by rw [eL1]; exact fun y hy => .app_r (iP y hy)
      have hL1 : ∀ q ∈ L1, H q.1 = some q.2 := by rw [eL1]; exact fun q hq => (List.mem_append.mp hq).elim (hEX q) (hLB q)
      have iW2 : At L1 w' (.lst (ls.map T3w.v)) := by rw [eL1]; exact iW1
      have iF2 : At L1 f' (.dK (hs.map fxK)) := by rw [eL1]; exact .app_r iF
      have iQ2 : Alls T3w.o L1 ls := by rw [eL1]; exact fun y hy => .app_r (iQ y hy)
      rw [← eL1]
      clear eL1
      refine Body.lcZ (α := V) (β := T2) (fun v => v) T2.v (fun _ _ => true) (fun v p => .bl (belowV v p.x)) bd ns [("at", 3), ("row", 4)] ["at", "row"] ["at", "row"] ⟨rfl, by decide +kernel, by decide +kernel, by decide +kernel, by decide +kernel⟩ (by decide +kernel) (by decide +kernel) (by decide +kernel) (by intro _; rfl) (bd.gl rfl) (bd.no (hB _ (by fail "mem"))) rfl rfl rfl ?_
      fail "x"
      refine ⟨b, l, xs, ps, rfl, rfl, by rw [List.map_id']; exact ib2, iL2, hxl, fun i y p hy hp D acc TT nD nT B bB nB => ?_, fun D nD => ?_⟩
      · rw [show wipe [some (V.ref a), some (V.ref b), none, none, none, none] _ = [some (V.ref a), some (V.ref b), none, none, none, none] from rfl]
        have nm1 := bB.nm
        have ip : At ((TT, HO.tup [y, p.v]) :: (D, acc) :: L1) p.a (.tup [.int p.x, .int p.y]) := .there (.there (iP2 p (List.mem_of_getElem? hp)))
        obtain ⟨ty, hty⟩ := hxs y (List.mem_of_getElem? hy)
        fail "x"
        intro B2 bB2
        have nm2 := bB2.nm
        refine kf_nil ⟨rfl, .cons _ (.refl _), fun _ B3 bB3 => ?_⟩
        have nm3 := bB3.nm
        fail "x"
        refine ix_tp (p := p.a) (xs := [.int p.x, .int p.y]) ip (v := .int p.x) (i := 0) (by rfl) ?_
        fail "x"
        refine rs_below (t := ty) (fun H' z => (hty.imp fun _ _ e => z.ext0 _ _ e).pv) ?_
        exact ⟨rfl, .cons _ (.refl _)⟩
      · rw [show zipF (fun _ _ => true) (fun (v : V) (p : T2) => V.bl (belowV v p.x)) (xs.zip ps) = ((xs.zip ps).map fun z => belowV z.1 z.2.x).map V.bl by rw [List.map_map, zipF, List.filter_eq_self.mpr (fun _ _ => rfl)]; rfl]
        fail "x"
        refine rc_all bd.calm .here ?_
        fail "x"
        cases hb : ((xs.zip ps).map fun z => belowV z.1 z.2.x).all id with
        | false =>
          fail "x"
          refine kf (fun ⟨b', is, e1, e2, tt⟩ => ?_) _
          cases e1
          rw [show H b = _ from e2] at e
          cases e
          rw [ints_below tt.rng] at hb
          cases hb
        | true =>
          obtain ⟨is, rfl, hrng⟩ := below_ints hlen hb
          clear hb nlen hxs ib hxl
          have hlen : is.length = ps.length := by rw [← hlen, List.length_map]
          fail "y"
          obtain ⟨LK, iA3, iB3, iL3, iW3, iP3, iQ3, hLK, hLKd⟩ : ∃ LK : LL, At LK a (planO c.p dx l w' f' v) ∧ At LK b (.lst (is.map V.int)) ∧ At LK l (.lst (ps.map T2.v)) ∧ At LK w' (.lst (ls.map T3w.v)) ∧ Alls T2.o LK ps ∧ Alls T3w.o LK ls ∧ (∀ q ∈ LK, At L1 q.1 q.2) ∧ ∀ q ∈ LK, (∀ ks, q.2 ≠ .dK ks) ∧ ∀ o u, q.2 ≠ .frz o u := by
            refine ⟨(a, planO c.p dx l w' f' v) :: (b, .lst (is.map V.int)) :: (l, .lst (ps.map T2.v)) :: (w', .lst (ls.map T3w.v)) :: (ps.map T2.o ++ ls.map T3w.o), .here, .there .here, .there (.there .here), .there (.there (.there .here)), fun y hy => .there (.there (.there (.there (Alls.self.app_l y hy)))), fun y hy => .there (.there (.there (.there (Alls.self.app_r y hy)))), fun q hq => ?_, fun q hq => ?_⟩
            · rcases List.mem_cons.mp hq with rfl | hq
              · exact iA2
              rcases List.mem_cons.mp hq with rfl | hq
              · exact ib2
              rcases List.mem_cons.mp hq with rfl | hq
              · exact iL2
              rcases List.mem_cons.mp hq with rfl | hq
              · exact iW2
              rcases List.mem_append.mp hq with hq | hq
              · obtain ⟨y, hy, rfl⟩ := List.mem_map.mp hq; exact iP2 y hy
              · obtain ⟨y, hy, rfl⟩ := List.mem_map.mp hq; exact iQ2 y hy
            · rcases List.mem_cons.mp hq with rfl | hq
              · exact ⟨(fun _ e => nomatch e), (fun _ _ e => nomatch e)⟩
              rcases List.mem_cons.mp hq with rfl | hq
              · exact ⟨(fun _ e => nomatch e), (fun _ _ e => nomatch e)⟩
              rcases List.mem_cons.mp hq with rfl | hq
              · exact ⟨(fun _ e => nomatch e), (fun _ _ e => nomatch e)⟩
              rcases List.mem_cons.mp hq with rfl | hq
              · exact ⟨(fun _ e => nomatch e), (fun _ _ e => nomatch e)⟩
              rcases List.mem_append.mp hq with hq | hq
              · obtain ⟨y, hy, rfl⟩ := List.mem_map.mp hq; exact ⟨(fun _ e => nomatch e), (fun _ _ e => nomatch e)⟩
              · obtain ⟨y, hy, rfl⟩ := List.mem_map.mp hq; exact ⟨(fun _ e => nomatch e), (fun _ _ e => nomatch e)⟩
          refine ke_only (L' := (f', .dK (hs.map fxK)) :: LK) (fun q hq => ?_) (fun q hq => ?_) ?_
          · rcases List.mem_cons.mp hq with rfl | hq
            · exact .there iF2
            · exact .there (hLK q hq)
          · refine ⟨fun z => ?_, id⟩
            rcases List.mem_cons.mp hq with rfl | hq
            · rw [hL1 _ iF2.mem] at z; cases z
            · rw [hL1 _ (hLK q hq).mem] at z; cases z
          refine ke_lock .here id LK (.cons _ (.refl _)) (fun q hq => (hLKd q hq).1) ?_
          intro od H1 hH1
          refine Body.lcItems (fxB is) bd ns [("i", 5), ("at", 3)] ["i", "at", "thing"] ["i", "at"] ⟨rfl, by decide +kernel, by decide +kernel, by decide +kernel, by decide +kernel⟩ (by decide +kernel) (by decide +kernel) (by decide +kernel) (by intro _; rfl) rfl rfl ?_
          fail "x"
          refine ⟨f', od, hs.map fxK, rfl, .here, by rw [List.length_map]; have := pl.ok.n3; omega, fun kv hkv D2 acc TT nD2 nT B bB nB => ?_, fun D2 nD2 => ?_⟩
          · obtain ⟨h, hh, rfl⟩ := List.mem_map.mp hkv
            obtain ⟨x1, x2, -⟩ := pl.ok.fx h hh
            obtain ⟨i, hi⟩ := Int.eq_ofNat_of_zero_le x1
            obtain ⟨t, ht⟩ : ∃ t, is[i]? = some t := ⟨_, List.getElem?_eq_getElem (by omega)⟩
            rw [show wipe [some (V.ref a), some (V.ref b), none, none, none, none] _ = [some (V.ref a), some (V.ref b), none, none, none, none] from rfl]
            have nm1 := bB.nm
            rw [show ([kV (fxK h).1, (fxK h).2] : List V) = [.int i, .int h.y] by rw [← hi]; rfl]
            fail "x"
            intro B2 bB2
            have nm2 := bB2.nm
            fail "x"
            refine ix_lst (v := .int t) (.there (.there (.there iB3))) (atI_nat rfl (by rw [List.getElem?_map, ht]; rfl)) ?_
            fail "x"
            refine ⟨?_, .cons _ (.refl _)⟩
            show V.bl (decide (t = h.y)) = V.bl (decide (is[h.x.toNat]? = some h.y))
            rw [hi, show ((i : Int).toNat) = i from rfl, ht]
            congr 1
            rw [Bool.eq_iff_iff, decide_eq_true_eq, decide_eq_true_eq, Option.some_inj]
          · refine ⟨(D2, .lst ((hs.map fxK).map (fxB is))) :: LK, .there .here, .cons₂ _ (.cons _ (.refl _)), fun q hq o u => ?_, ?_⟩
            · rcases List.mem_cons.mp hq with rfl | hq
              · exact (fun e => nomatch e)
              · exact (hLKd q hq).2 o u
            fail "x"
            rw [show (hs.map fxK).map (fxB is) = (hs.map fun h => decide (is[h.x.toNat]? = some h.y)).map V.bl by rw [List.map_map, List.map_map]; rfl]
            refine rc_all bd.calm (.there .here) ?_
            fail "x"
            cases hb2 : (hs.map fun h => decide (is[h.x.toNat]? = some h.y)).all id with
            | false =>
              fail "x"
              refine kf (fun ⟨b', is', e1, e2, tt⟩ => ?_) _
              cases e1
              rw [show H b = _ from e2] at e
              cases List.map_inj_right (fun _ _ h => V.int.inj h) |>.mp (HO.lst.inj (Option.some.inj e))
              rw [List.all_map, List.all_eq_false] at hb2
              obtain ⟨h, hh, z⟩ := hb2
              exact z (decide_eq_true (tt.fix h hh))
            | true =>
              have hfx : ∀ h ∈ hs, is[h.x.toNat]? = some h.y := fun h hh => by
                rw [List.all_map, List.all_eq_true] at hb2
                exact of_decide_eq_true (hb2 h hh)
              fail "y"
              refine Body.lcF false T3w.v bd ns [("wish", 2)] ["wish", "self", "thing"] ["wish"] (fun u => .bl (holdsB ps is u)) ⟨rfl, by decide +kernel, by decide +kernel, by decide +kernel, by decide +kernel⟩ (by decide +kernel) (by decide +kernel) (by decide +kernel) (by intro _; rfl) ?_
              have iA4 : At ((f', HO.dK (hs.map fxK)) :: (D2, HO.lst ((hs.map fun h => decide (is[h.x.toNat]? = some h.y)).map V.bl)) :: LK) a (planO c.p dx l w' f' v) := .there (.there iA3)
              fail "x"
              refine ⟨w', ls, rfl, (show At _ w' (.lst _) from .there (.there iW3)), by have := pl.ok.n2; omega, fun u hu D3 acc nD3 B bB nB => ?_, fun D3 nD3 => ?_⟩
              · rw [show wipe [some (V.ref a), some (V.ref b), none, none, none, none] _ = [some (V.ref a), some (V.ref b), none, none, none, none] from rfl]
                have nm1 := bB.nm
                have iA5 := At.there (q := (D3, acc)) iA4
                obtain ⟨u1, u2, u3, u4, -⟩ := pl.ok.wi u hu
                fail "x"
                intro B2 bB2
                have nm2 := bB2.nm
                fail "x"
                refine rs_holds0 pl (.there (.there (.there (iQ3 u hu)))) u1 u2 u3 u4 (.there (.there (.there iB3))) hlen ?_
                intro r hr
                refine ⟨?_, .refl _⟩
                congr 1
                rw [Bool.eq_iff_iff, hr, holdsB_iff]
              · fail "x"
                rw [show (ls.map fun u => V.bl (holdsB ps is u)) = (ls.map (holdsB ps is)).map V.bl by rw [List.map_map]; rfl]
                refine rc_all bd.calm .here ?_
                refine fun H' z => (k _ ?_).e0 (z.sub (List.nil_sublist _))
                rw [List.all_map, List.all_eq_true]
                constructor
                · intro hw
                  exact ⟨b, is, rfl, e, hlen, hrng, hfx, fun u hu => holdsB_iff.mp (hw u hu)⟩
                · rintro ⟨b', is', e1, e2, tt⟩ u hu
                  cases e1
                  rw [show H b = _ from e2] at e
                  cases List.map_inj_right (fun _ _ h => V.int.inj h) |>.mp (HO.lst.inj (Option.some.inj e))
                  exact holdsB_iff.mpr (tt.wish u hu))
theorem ok_isTT (T : Tx P K mg c) : MethT P w K mg base CX0 4 (Is1 c.p) "is_timetable" (spIsTT c) := T.Plan_is_timetable.ok (fun C h => by rw [h]; exact T.cls_p) bi_Plan_is_timetable (fk_isTT T)
end

local macro_rules | `(tactic| fail "x") => `(tactic| repeat fail "1")
section
variable {P : Program} {w : World} {K : PySem.W.Frag} {mg : Str → Option Value} {base : Heap} {c : Cp}
def spLHolds : Sp := fun vs H Q _ => ∃ (l wl hl al : Addr) (ps : List T2) (ls : List T3w) (hs : List T2) (is : List Int), vs = [.ref l, .ref wl, .ref hl, .ref al] ∧ H l = some (.lst (ps.map T2.v)) ∧ (∀ p ∈ ps, H p.a = some p.o.2) ∧ H wl = some (.lst (ls.map T3w.v)) ∧ (∀ p ∈ ls, H p.a = some p.o.2) ∧ H hl = some (.lst (hs.map T2.v)) ∧ (∀ p ∈ hs, H p.a = some p.o.2) ∧ H al = some (.lst (is.map V.int)) ∧ PlanIn ps ls hs ∧ is.length = ps.length ∧
  ∀ r : Bool, (r = true ↔ IsTT ps ls hs is) → RetP H Q (.bl r) []
theorem rs_lholds {H0 : Hp} {M : Addr → Prop} {L : LL} {Q : V → LL → Prop} {E : XK} {l wl hl al : Addr} {ps : List T2} {ls : List T3w} {hs : List T2} {is : List Int} (il : At L l (.lst (ps.map T2.v))) (ap : Alls T2.o L ps) (iw : At L wl (.lst (ls.map T3w.v))) (aw : Alls T3w.o L ls) (ih : At L hl (.lst (hs.map T2.v))) (ah : Alls T2.o L hs) (ia : At L al (.lst (is.map V.int))) (ok : PlanIn ps ls hs) (hlen : is.length = ps.length)
    (h : ∀ r : Bool, (r = true ↔ IsTT ps ls hs is) → Q (.bl r) L) : rs H0 M spLHolds E [.ref l, .ref wl, .ref hl, .ref al] L Q :=
  fun H z => ⟨l, wl, hl, al, ps, ls, hs, is, rfl, z.get il, ap.get z, z.get iw, aw.get z, z.get ih, ah.get z, z.get ia, ok, hlen, fun r e => z.p0 (h r e)⟩
theorem rng_iff {ps : List T2} {is : List Int} : (is.zip ps).filter (fun z => !(decide (0 ≤ z.1) && decide (z.1 < z.2.x))) = [] ↔ ∀ (k : Nat) (p : T2) (t : Int), ps[k]? = some p → is[k]? = some t → 0 ≤ t ∧ t < p.x := by
  rw [List.filter_eq_nil_iff]
  constructor
  · intro h k p t hp ht
    have := h (t, p) (List.mem_of_getElem? (i := k) (by rw [List.getElem?_zip_eq_some]; exact ⟨ht, hp⟩))
    have e : (decide (0 ≤ t) && decide (t < p.x)) = true := by
      cases z : (decide (0 ≤ t) && decide (t < p.x)) with
      | true => rfl
      | false => exact absurd (by show (!(decide (0 ≤ t) && decide (t < p.x))) = true; rw [z]; rfl) this
    rw [Bool.and_eq_true, decide_eq_true_eq, decide_eq_true_eq] at e
    exact e
  · rintro h ⟨t, p⟩ hm
    obtain ⟨k, hk⟩ := List.getElem?_of_mem hm
    rw [List.getElem?_zip_eq_some] at hk
    obtain ⟨a, b⟩ := h k p t hk.2 hk.1
    show ¬ (!(decide (0 ≤ t) && decide (t < p.x))) = true
    rw [decide_eq_true a, decide_eq_true b]
    decide
theorem fix_iff {hs : List T2} {is : List Int} : hs.filter (fun h => !decide (is[h.x.toNat]? = some h.y)) = [] ↔ ∀ h ∈ hs, is[h.x.toNat]? = some h.y := by
  rw [List.filter_eq_nil_iff]
  constructor
  · intro h x hx
    have := h x hx
    rw [Bool.not_eq_true', decide_eq_false_iff_not, Classical.not_not] at this
    exact this
  · intro h x hx
    rw [Bool.not_eq_true', decide_eq_false_iff_not, Classical.not_not]
    exact h x hx
theorem ok_lholds (T : Tx P K mg c) : DefT P w K mg base CX0 1 "_law_holds" spLHolds :=
  T.holds.ok bi_holds fun f fd F => fk_body F sc_holds lo_holds pl_holds (by (conv => lhs; whnf)) (fun vs H Q E h => by obtain ⟨l, wl, hl, al, ps, ls, hs, is, rfl, _⟩ := h; rfl) (fun X bd ns H vs Q E h => by
    obtain ⟨l, wl, hl, al, ps, ls, hs, is, rfl, hl1, hps, hwl, hls, hhl, hhs, hal, ok, hlen, k⟩ := h
    have nm := bd.nm
    have hB := T.blt
    obtain ⟨LB, iL, iP, iW, iQ, iH, iK, iI, hLB⟩ : ∃ LB : LL, At LB l (.lst (ps.map T2.v)) ∧ Alls T2.o LB ps ∧ At LB wl (.lst (ls.map T3w.v)) ∧ Alls T3w.o LB ls ∧ At LB hl (.lst (hs.map T2.v)) ∧ Alls T2.o LB hs ∧ At LB al (.lst (is.map V.int)) ∧ ∀ q ∈ LB, H q.1 = some q.2 := by
      refine ⟨(l, .lst (ps.map T2.v)) :: (wl, .lst (ls.map T3w.v)) :: (hl, .lst (hs.map T2.v)) :: (al, .lst (is.map V.int)) :: (ps.map T2.o ++ (ls.map T3w.o ++ hs.map T2.o)), .here, fun x hx => .there (.there (.there (.there (Alls.self.app_l x hx)))), .there .here, fun x hx => .there (.there (.there (.there (.app_r (Alls.self.app_l x hx))))), .there (.there .here), fun x hx => .there (.there (.there (.there (.app_r (.app_r (Alls.self x hx)))))), .there (.there (.there .here)), fun q hq => ?_⟩
      rcases List.mem_cons.mp hq with rfl | hq
      · exact hl1
      rcases List.mem_cons.mp hq with rfl | hq
      · exact hwl
      rcases List.mem_cons.mp hq with rfl | hq
      · exact hhl
      rcases List.mem_cons.mp hq with rfl | hq
      · exact hal
      rcases List.mem_append.mp hq with hq | hq
      · obtain ⟨x, hx, rfl⟩ := List.mem_map.mp hq
        exact hps x hx
      rcases List.mem_append.mp hq with hq | hq
      · obtain ⟨x, hx, rfl⟩ := List.mem_map.mp hq
        exact hls x hx
      · obtain ⟨x, hx, rfl⟩ := List.mem_map.mp hq
        exact hhs x hx
    have kf : ¬ IsTT ps ls hs is → ∀ L H', Hs H (fun _ => False) L H' → Q (.bl false) H' := fun n L H' z => (k false ⟨nofun, fun h => absurd h n⟩).e0 (z.sub (List.nil_sublist _))
    with_reducible refine wb_go (M := fun _ => False) (L := LB) (σ := [some (.ref l), some (.ref wl), some (.ref hl), some (.ref al), none, none, none, none, none, none, none]) ?e (.any hLB) ?_
    (case e => rfl)
    refine kb_seq (ks_for bd.own bd.calm (by intro _; rfl) ?_)
    refine ki_list ?_
    fail "x"
    refine ⟨wl, _, rfl, iW, fun J wk => ⟨_, _, _, fun i σ L => ∃ (o1 o2 o3 o4 : Option V), σ = [some (.ref l), some (.ref wl), some (.ref hl), some (.ref al), o1, o2, o3, o4, none, none, none] ∧ LB = L ∧ ∀ u ∈ ls.take i, HoldsW ps is u.x u.y u.z, wk, ?_, ?_, ?_, ?_⟩⟩
    · exact ⟨_, _, _, _, rfl, rfl, by simp⟩
    · rintro i σ L - ⟨o1, o2, o3, o4, rfl, rfl, -⟩
      exact iW
    · rintro n x σ L L' hi ⟨o1, o2, o3, o4, rfl, rfl, hdn⟩ ⟨eL', hy⟩
      rw [eL']
      rw [List.getElem?_map] at hy
      obtain ⟨u, hu, rfl⟩ := Option.map_eq_some_iff.mp hy
      have hum := List.mem_of_getElem? hu
      obtain ⟨h1, h2, h3, h4, -⟩ := ok.wi u hum
      obtain ⟨i, hi1⟩ := Int.eq_ofNat_of_zero_le h1
      obtain ⟨j, hj1⟩ := Int.eq_ofNat_of_zero_le h3
      obtain ⟨p, hp⟩ : ∃ p, ps[i]? = some p := ⟨_, List.getElem?_eq_getElem (by omega)⟩
      obtain ⟨q, hq⟩ : ∃ p, ps[j]? = some p := ⟨_, List.getElem?_eq_getElem (by omega)⟩
      obtain ⟨t, ht⟩ : ∃ p, is[i]? = some p := ⟨_, List.getElem?_eq_getElem (by omega)⟩
      obtain ⟨v, hv⟩ : ∃ p, is[j]? = some p := ⟨_, List.getElem?_eq_getElem (by omega)⟩
      have hpp := (ok.ok p (List.mem_of_getElem? hp)).1
      have hqp := (ok.ok q (List.mem_of_getElem? hq)).1
      have iu : At LB u.a (.tup [.int i, .int j, .int u.z]) := by rw [← hi1, ← hj1]; exact iQ u hum
      have iP1 : At LB p.a (.tup [.int p.x, .int p.y]) := iP p (List.mem_of_getElem? hp)
      have iP2 : At LB q.a (.tup [.int q.x, .int q.y]) := iP q (List.mem_of_getElem? hq)
      have hiff : HoldsW ps is u.x u.y u.z ↔ (t + p.y + u.z - v) % (if q.x < p.x then q.x else p.x) = 0 := by
        rw [hi1, hj1]
        constructor
        · exact fun e => e p q t v hp hq ht hv
        · intro e p' q' t' u' e1 e2 e3 e4
          rw [show ((i : Int).toNat) = i from rfl] at e1 e3
          rw [show ((j : Int).toNat) = j from rfl] at e2 e4
          rw [hp] at e1; rw [hq] at e2; rw [ht] at e3; rw [hv] at e4
          cases e1; cases e2; cases e3; cases e4
          exact e
      fail "x"
      refine ix_lst (v := p.v) iL (atI_nat rfl (by rw [List.getElem?_map, hp]; rfl)) ?_
      fail "x"
      refine ix_tp (p := p.a) (xs := [.int p.x, .int p.y]) iP1 (v := .int p.x) (i := 0) (by rfl) ?_
      fail "x"
      refine ix_lst (v := q.v) iL (atI_nat rfl (by rw [List.getElem?_map, hq]; rfl)) ?_
      fail "x"
      refine ix_tp (p := q.a) (xs := [.int q.x, .int q.y]) iP2 (v := .int q.x) (i := 0) (by rfl) ?_
      fail "x"
      refine ix_lst (v := .int t) iI (atI_nat rfl (by rw [List.getElem?_map, ht]; rfl)) ?_
      fail "x"
      refine ix_lst (v := p.v) iL (atI_nat rfl (by rw [List.getElem?_map, hp]; rfl)) ?_
      fail "x"
      refine ix_tp (p := p.a) (xs := [.int p.x, .int p.y]) iP1 (v := .int p.y) (i := 1) (by rfl) ?_
      fail "x"
      refine ix_lst (v := .int v) iI (atI_nat rfl (by rw [List.getElem?_map, hv]; rfl)) ?_
      fail "x"
      refine pickB_ndec (fun hne => ?_) (fun he => ?_)
      · fail "x"
        exact kf (fun tt => hne (hiff.mp (tt.wish u hum))) _
      · fail "x"
        refine kb_nil (.refl _) (kb_nil (.refl _) ⟨_, _, _, _, rfl, rfl, fun u' hu' => ?_⟩)
        rw [List.take_add_one, hu] at hu'
        rcases List.mem_append.mp hu' with hu' | hu'
        · exact hdn u' hu'
        · rw [List.mem_singleton.mp hu']; exact hiff.mpr he
    · rintro σ L ⟨o1, o2, o3, o4, rfl, rfl, hdn⟩
      rw [List.length_map, List.take_length] at hdn
      fail "x"
      refine Body.lcZ (α := Int) (β := T2) V.int T2.v (fun t p => !(decide (0 ≤ t) && decide (t < p.x))) (fun _ _ => .int 1) bd ns [("at", 8), ("pair", 9)] ["at", "pair"] ["at", "pair"] ⟨rfl, by decide +kernel, by decide +kernel, by decide +kernel, by decide +kernel⟩ (by decide +kernel) (by decide +kernel) (by decide +kernel) (by intro _; rfl) (bd.gl rfl) (bd.no (hB _ (by fail "mem"))) rfl rfl rfl ?_
      fail "x"
      refine ⟨al, l, is, ps, rfl, rfl, iI, iL, by have := ok.n1; omega, fun i t p ht hp D acc TT nD nT B bB nB => ?_, fun D nD => ?_⟩
      · rw [show wipe [some (V.ref l), some (V.ref wl), some (V.ref hl), some (V.ref al), o1, o2, o3, o4, none, none, none] _ = [some (V.ref l), some (V.ref wl), some (V.ref hl), some (V.ref al), o1, o2, o3, o4, none, none, none] from rfl]
        have nm1 := bB.nm
        have ip : At ((TT, HO.tup [.int t, p.v]) :: (D, acc) :: LB) p.a (.tup [.int p.x, .int p.y]) := .there (.there (iP p (List.mem_of_getElem? hp)))
        fail "x"
        intro B2 bB2
        have nm2 := bB2.nm
        refine kf_one ?_
        fail "x"
        refine pick_dec (fun h0 => ?_) (fun h0 => ?_)
        · fail "x"
          refine ix_tp (p := p.a) (xs := [.int p.x, .int p.y]) ip (v := .int p.x) (i := 0) (by rfl) ?_
          fail "x"
          refine ⟨by rw [decide_eq_true h0, Bool.true_and], .cons _ (.refl _), fun _ B3 bB3 => ?_⟩
          fail "x"
          exact .cons _ (.refl _)
        · refine ⟨by rw [decide_eq_false h0, Bool.false_and], .cons _ (.refl _), fun _ B3 bB3 => ?_⟩
          fail "x"
          exact .cons _ (.refl _)
      · fail "x"
        rename_i p1 np1
        rw [show zipF (fun (t : Int) (p : T2) => !(decide (0 ≤ t) && decide (t < p.x))) (fun _ _ => V.int 1) (is.zip ps) = (((is.zip ps).filter fun z => !(decide (0 ≤ z.1) && decide (z.1 < z.2.x))).map fun _ => (1 : Int)).map V.int by rw [List.map_map]; rfl]
        refine ro_neNil bd.room (.there .here) .here ?_
        cases hz : (is.zip ps).filter (fun z => !(decide (0 ≤ z.1) && decide (z.1 < z.2.x))) with
        | cons z zs =>
          fail "x"
          refine pickB_Y rfl ?_
          fail "x"
          refine kf (fun tt => ?_) _
          rw [rng_iff.mpr tt.rng] at hz
          cases hz
        | nil =>
          have hrng := rng_iff.mp hz
          fail "y"
          refine Body.lcP T2.v (fun h => !decide (is[h.x.toNat]? = some h.y)) (fun _ => .int 1) bd ns [("one", 4), ("own", 10)] ["one", "own", "ats"] ["one", "own"] ⟨rfl, by decide +kernel, by decide +kernel, by decide +kernel, by decide +kernel⟩ (by decide +kernel) (by decide +kernel) (by decide +kernel) (by intro _; rfl) ?_
          fail "x"
          refine ⟨hl, hs, rfl, .there (.there iH), by have := ok.n3; omega, fun h hh D2 acc nD2 B bB nB => ?_, fun D2 nD2 => ?_⟩
          · rw [show wipe [some (V.ref l), some (V.ref wl), some (V.ref hl), some (V.ref al), o1, o2, o3, o4, none, none, none] _ = [some (V.ref l), some (V.ref wl), some (V.ref hl), some (V.ref al), none, o2, o3, o4, none, none, none] from rfl]
            have nm1 := bB.nm
            obtain ⟨x1, x2, -⟩ := ok.fx h hh
            obtain ⟨i, hi⟩ := Int.eq_ofNat_of_zero_le x1
            obtain ⟨t, ht⟩ : ∃ t, is[i]? = some t := ⟨_, List.getElem?_eq_getElem (by omega)⟩
            have ih : At LB h.a (.tup [.int i, .int h.y]) := by rw [← hi]; exact iK h hh
            fail "x"
            intro B2 bB2
            have nm2 := bB2.nm
            refine kf_one ?_
            fail "x"
            refine ix_lst (v := .int t) (.there (.there (.there iI))) (atI_nat rfl (by rw [List.getElem?_map, ht]; rfl)) ?_
            fail "x"
            refine ⟨?_, .refl _, fun _ B3 bB3 => ?_⟩
            · rw [hi, show ((i : Int).toNat) = i from rfl, ht]
              congr 1
              rw [Bool.eq_iff_iff, decide_eq_true_eq, decide_eq_true_eq, Option.some_inj]
            · fail "x"
              exact .refl _
          · fail "x"
            rename_i p2 np2
            rw [show (hs.filter fun h => !decide (is[h.x.toNat]? = some h.y)).map (fun _ => V.int 1) = ((hs.filter fun h => !decide (is[h.x.toNat]? = some h.y)).map fun _ => (1 : Int)).map V.int by rw [List.map_map]; rfl]
            refine ro_eqNil bd.room (.there .here) .here ?_
            refine fun H' z => (k _ ?_).e0 (z.sub (List.nil_sublist _))
            rw [List.isEmpty_iff, List.map_eq_nil_iff, fix_iff]
            exact ⟨fun h => ⟨hlen, hrng, h, hdn⟩, fun tt => tt.fix⟩)
def notInt (y : V) : Bool := match y with
  | .int _ => false
  | _ => true
theorem ints_of : ∀ {xs : List V}, xs.filter notInt = [] → ∃ is : List Int, xs = is.map V.int
  | [], _ => ⟨[], rfl⟩
  | x :: xs, h => by
    cases x with
    | int i =>
      obtain ⟨is, e⟩ := ints_of (xs := xs) h
      exact ⟨i :: is, by rw [e]; rfl⟩
    | _ => cases h
theorem of_ints : ∀ {is : List Int}, (is.map V.int).filter notInt = []
  | [] => rfl
  | _ :: is => of_ints (is := is)
theorem Pk.notInt {G : Kn} {y : V} {t : String} (h : Pk G y t) : Toy.notInt y = !decide (t = "int") := by
  cases h <;> rfl
def spLDue : Sp := fun vs H Q _ => ∃ (l wl hl : Addr) (ps : List T2) (ls : List T3w) (hs : List T2) (x : V), vs = [.ref l, .ref wl, .ref hl, x] ∧ H l = some (.lst (ps.map T2.v)) ∧ (∀ p ∈ ps, H p.a = some p.o.2) ∧ H wl = some (.lst (ls.map T3w.v)) ∧ (∀ p ∈ ls, H p.a = some p.o.2) ∧ H hl = some (.lst (hs.map T2.v)) ∧ (∀ p ∈ hs, H p.a = some p.o.2) ∧ PlanIn ps ls hs ∧ AnyV (OnH H) x ∧
  ∀ r : Bool, (r = true ↔ TTv (OnH H) ps ls hs x) → RetP H Q (.bl r) []
theorem ok_ldue (T : Tx P K mg c) : DefT P w K mg base CX0 2 "_law_due" spLDue :=
  T.due.ok bi_due fun f fd F => fk_body F sc_due lo_due pl_due (by (conv => lhs; whnf)) (fun vs H Q E h => by obtain ⟨l, wl, hl, ps, ls, hs, x, rfl, _⟩ := h; rfl) (fun X bd ns H vs Q E h => by
    obtain ⟨l, wl, hl, ps, ls, hs, x, rfl, hl1, hps, hwl, hls, hhl, hhs, ok, av, k⟩ := h
    have nm := bd.nm
    have hB := T.blt
    have d1 := ok_lholds (P := P) (w := w) (base := base) T
    obtain ⟨t, ht⟩ := av.ty
    have nt : t ≠ "list" → ∀ b xs, x = .ref b → H b ≠ some (.lst xs) := fun ne b xs e1 e2 => by
      subst e1
      cases ht with
      | lst e => exact ne rfl
      | tup e => rw [show H b = _ from e] at e2; cases e2
      | dK e => rw [show H b = _ from e] at e2; cases e2
    obtain ⟨LB, iL, iP, iW, iQ, iH, iK, iX, hLB⟩ : ∃ LB : LL, At LB l (.lst (ps.map T2.v)) ∧ Alls T2.o LB ps ∧ At LB wl (.lst (ls.map T3w.v)) ∧ Alls T3w.o LB ls ∧ At LB hl (.lst (hs.map T2.v)) ∧ Alls T2.o LB hs ∧ (∀ b xs, x = .ref b → H b = some (.lst xs) → At LB b (.lst xs)) ∧ ∀ q ∈ LB, H q.1 = some q.2 := by
      obtain ⟨EX, hEX, hEl⟩ : ∃ EX : LL, (∀ q ∈ EX, H q.1 = some q.2) ∧ ∀ b xs, x = .ref b → H b = some (.lst xs) → At EX b (.lst xs) := by
        cases ht with
        | @lst b xs e =>
          refine ⟨[(b, .lst xs)], fun q hq => by rw [List.mem_singleton.mp hq]; exact e, fun b' xs' e1 e2 => ?_⟩
          cases e1
          rw [show H b = _ from e] at e2
          cases e2
          exact .here
        | tup e => exact ⟨[], (fun _ h => nomatch h), fun b' xs' e1 e2 => by cases e1; rw [show H _ = _ from e] at e2; cases e2⟩
        | dK e => exact ⟨[], (fun _ h => nomatch h), fun b' xs' e1 e2 => by cases e1; rw [show H _ = _ from e] at e2; cases e2⟩
        | non => exact ⟨[], (fun _ h => nomatch h), fun b' xs' e1 e2 => nomatch e1⟩
        | bl => exact ⟨[], (fun _ h => nomatch h), fun b' xs' e1 e2 => nomatch e1⟩
        | int => exact ⟨[], (fun _ h => nomatch h), fun b' xs' e1 e2 => nomatch e1⟩
        | str => exact ⟨[], (fun _ h => nomatch h), fun b' xs' e1 e2 => nomatch e1⟩
      refine ⟨(l, .lst (ps.map T2.v)) :: (wl, .lst (ls.map T3w.v)) :: (hl, .lst (hs.map T2.v)) :: (ps.map T2.o ++ (ls.map T3w.o ++ (hs.map T2.o ++ EX))), .here, fun x hx => .there (.there (.there (Alls.self.app_l x hx))), .there .here, fun x hx => .there (.there (.there (.app_r (Alls.self.app_l x hx)))), .there (.there .here), fun x hx => .there (.there (.there (.app_r (.app_r (Alls.self.app_l x hx))))), fun b xs e1 e2 => .there (.there (.there (.app_r (.app_r (.app_r (hEl b xs e1 e2)))))), fun q hq => ?_⟩
      rcases List.mem_cons.mp hq with rfl | hq
      · exact hl1
      rcases List.mem_cons.mp hq with rfl | hq
      · exact hwl
      rcases List.mem_cons.mp hq with rfl | hq
      · exact hhl
      rcases List.mem_append.mp hq with hq | hq
      · obtain ⟨x, hx, rfl⟩ := List.mem_map.mp hq
        exact hps x hx
      rcases List.mem_append.mp hq with hq | hq
      · obtain ⟨x, hx, rfl⟩ := List.mem_map.mp hq
        exact hls x hx
      rcases List.mem_append.mp hq with hq | hq
      · obtain ⟨x, hx, rfl⟩ := List.mem_map.mp hq
        exact hhs x hx
      · exact hEX q hq
    with_reducible refine wb_go (M := fun _ => False) (L := LB) (σ := [some (.ref l), some (.ref wl), some (.ref hl), some x, none]) ?e (.any hLB) ?_
    (case e => rfl)
    fail "x"
    refine ke_c (pe_bltn (v := .ty "list") (bd.gl rfl) (bd.no (hB _ (by fail "mem"))) bo_list rfl) ?_
    fail "x"
    have kf : ¬ TTv (OnH H) ps ls hs x → ∀ L H', Hs H (fun _ => False) L H' → Q (.bl false) H' := fun n L H' z => (k false ⟨nofun, fun h => absurd h n⟩).e0 (z.sub (List.nil_sublist _))
    have no : t ≠ "list" → ¬ TTv (OnH H) ps ls hs x := fun ne ⟨b, is, e1, e2, _⟩ => nt ne b _ e1 e2
    cases ht with
    | non =>
      refine rc_isi (.ty "list") (fun H z => .base .non) (kit_ty (b := "list") (r := false) (by decide +kernel)) ?_
      fail "x"
      exact kf (no (by decide)) _
    | bl b =>
      refine rc_isi (.ty "list") (fun H z => .base (.bl _)) (kit_ty (b := "list") (r := false) (by decide +kernel)) ?_
      fail "x"
      exact kf (no (by decide)) _
    | int i =>
      refine rc_isi (.ty "list") (fun H z => .base (.int _)) (kit_ty (b := "list") (r := false) (by decide +kernel)) ?_
      fail "x"
      exact kf (no (by decide)) _
    | str s =>
      refine rc_isi (.ty "list") (fun H z => .base (.str _)) (kit_ty (b := "list") (r := false) (by decide +kernel)) ?_
      fail "x"
      exact kf (no (by decide)) _
    | tup e =>
      refine rc_isi (.ty "list") (fun H' z => .base (.tup (z.ext0 _ _ e))) (kit_ty (b := "list") (r := false) (by decide +kernel)) ?_
      fail "x"
      exact kf (no (by decide)) _
    | dK e =>
      refine rc_isi (.ty "list") (fun H' z => .base (.dK (z.ext0 _ _ e))) (kit_ty (b := "list") (r := false) (by decide +kernel)) ?_
      fail "x"
      exact kf (no (by decide)) _
    | @lst b xs e =>
      clear nt no
      have e : H b = some (.lst xs) := e
      obtain ⟨hxl, hxs⟩ := av.ls b xs rfl e
      refine rc_isi (.ty "list") (fun H' z => .base (.lst (z.ext0 _ _ e))) (kit_ty (b := "list") (r := true) (by decide +kernel)) ?_
      have ib : At LB b (.lst xs) := iX b xs rfl e
      fail "x"
      rw [List.length_map]
      have nlen : ¬ (xs.length = ps.length) → ¬ TTv (OnH H) ps ls hs (.ref b) := fun ne ⟨b', is, e1, e2, tt⟩ => by
        cases e1
        rw [show H b = _ from e2] at e
        cases e
        exact ne (by rw [List.length_map]; exact tt.len)
      refine pickB_ndec (fun hne => ?_) (fun hlen => ?_)
      · fail "x"
        exact kf (nlen (by omega)) _
      have hlen : xs.length = ps.length := by omega
      fail "y"
      refine Body.lcP (α := V) (fun v => v) notInt (fun _ => .int 1) bd ns [("at", 4)] ["at"] ["at"] ⟨rfl, by decide +kernel, by decide +kernel, by decide +kernel, by decide +kernel⟩ (by decide +kernel) (by decide +kernel) (by decide +kernel) (by intro _; rfl) ?_
      fail "x"
      refine ⟨b, xs, rfl, by rw [List.map_id']; exact ib, hxl, fun y hy D2 acc nD2 B bB nB => ?_, fun D2 nD2 => ?_⟩
      · rw [show wipe [some (V.ref l), some (V.ref wl), some (V.ref hl), some (V.ref b), none] _ = [some (V.ref l), some (V.ref wl), some (V.ref hl), some (V.ref b), none] from rfl]
        have nm1 := bB.nm
        fail "x"
        intro B2 bB2
        have nm2 := bB2.nm
        refine kf_one ?_
        obtain ⟨ty, hty⟩ := hxs y hy
        obtain ⟨r, k1, k2, k3⟩ := hty.pv.kitI (K := B2.K)
        have eN := hty.notInt
        fail "x"
        refine ke_c (pe_bltn (v := .ty "int") (bB2.gl rfl) (bB2.no (hB _ (by fail "mem"))) bo_int rfl) ?_
        fail "x"
        refine rc_isi (.ty "int") (fun H' z => (hty.imp fun _ _ e => z.ext0 _ _ e).pv.tyx) k1 ?_
        fail "x"
        cases r with
        | false =>
          refine pickB_Y rfl ?_
          refine ⟨by rw [eN, k2 rfl]; rfl, .refl _, fun _ B3 bB3 => ?_⟩
          fail "x"
          exact .refl _
        | true =>
          refine pickB_N rfl ?_
          fail "x"
          refine ke_c (pe_bltn (v := .ty "bool") (bB2.gl rfl) (bB2.no (hB _ (by fail "mem"))) bo_bool rfl) ?_
          fail "x"
          refine rc_isi (.ty "bool") (fun H' z => (hty.imp fun _ _ e => z.ext0 _ _ e).pv.tyx) (k3 rfl) ?_
          fail "x"
          refine ⟨eN.symm, .refl _, fun _ B3 bB3 => ?_⟩
          fail "x"
          exact .refl _
      · fail "x"
        rename_i p1 np1
        rw [show (xs.filter notInt).map (fun _ => V.int 1) = ((xs.filter notInt).map fun _ => (1 : Int)).map V.int by rw [List.map_map]; rfl]
        refine ro_neNil bd.room (.there .here) .here ?_
        cases hz : xs.filter notInt with
        | cons z zs =>
          fail "x"
          refine pickB_Y rfl ?_
          fail "x"
          refine kf (fun ⟨b', is, e1, e2, tt⟩ => ?_) _
          cases e1
          rw [show H b = _ from e2] at e
          cases e
          rw [of_ints] at hz
          cases hz
        | nil =>
          obtain ⟨is, rfl⟩ := ints_of hz
          fail "y"
          refine rs_lholds (.there (.there iL)) iP.there.there (.there (.there iW)) iQ.there.there (.there (.there iH)) iK.there.there (.there (.there ib)) ok (by rw [← hlen, List.length_map]) ?_
          intro r hr
          refine fun H' z => (k r ?_).e0 (z.sub (List.nil_sublist _))
          rw [hr]
          constructor
          · exact fun tt => ⟨b, is, rfl, e, tt⟩
          · rintro ⟨b', is', e1, e2, tt⟩
            cases e1
            rw [show H b = _ from e2] at e
            cases List.map_inj_right (fun _ _ h => V.int.inj h) |>.mp (HO.lst.inj (Option.some.inj e))
            exact tt)
end

/-! ### any objects, with their repr -/
/-- an object of any kind; a list with what stands in it -/
inductive It (G : Kn) : V → Prop
  | pk {x : V} {t : String} (h : Pk G x t) (n : t ≠ "list") : It G x
  | ls {b : Addr} {xs : List V} (e : G b (.lst xs)) (hl : xs.length ≤ 1000) (h : ∀ y ∈ xs, ∃ t, Pk G y t) : It G (.ref b)
theorem It.imp {G G' : Kn} {x : V} (h : It G x) (i : ∀ a o, G a o → G' a o) : It G' x := by
  cases h with
  | pk h n => exact .pk (h.imp i) n
  | ls e hl h => exact .ls (i _ _ e) hl fun y hy => let ⟨t, p⟩ := h y hy; ⟨t, p.imp i⟩
theorem It.any {H : Hp} {x : V} (h : It (OnH H) x) : AnyV (OnH H) x := by
  cases h with
  | pk h n =>
    refine ⟨⟨_, h⟩, fun b xs e1 e2 => ?_⟩
    subst e1
    cases h with
    | lst e => exact absurd rfl n
    | tup e =>
      have e : H b = _ := e
      have e2 : H b = _ := e2
      rw [e] at e2; cases e2
    | dK e =>
      have e : H b = _ := e
      have e2 : H b = _ := e2
      rw [e] at e2; cases e2
  | @ls b xs e hl h =>
    refine ⟨⟨_, .lst e⟩, fun b2 ys e1 e2 => ?_⟩
    cases e1
    have e : H b = _ := e
    have e2 : H b = _ := e2
    rw [e] at e2
    cases e2
    exact ⟨hl, h⟩
/-- .. and its data -/
structure ItD (G : Kn) (B n : Nat) (x : V) : Prop where
  it : It G x
  d : ∃ d, Dq G x d ∧ Sm B n d
theorem ItD.imp {G G' : Kn} {B n : Nat} {x : V} (h : ItD G B n x) (i : ∀ a o, G a o → G' a o) : ItD G' B n x := ⟨h.it.imp i, let ⟨d, q, s⟩ := h.d; ⟨d, q.imp i _ _, s⟩⟩
theorem ItD.up {G : Kn} {B n B' n' : Nat} {x : V} (h : ItD G B n x) (b : B ≤ B') (m : n ≤ n') : ItD G B' n' x := ⟨h.it, let ⟨d, q, s⟩ := h.d; ⟨d, q, s.up b m⟩⟩
/-- what may stand in a list -/
structure El (G : Kn) (B n : Nat) (x : V) : Prop where
  ty : ∃ t, Pk G x t
  d : ∃ d, Dq G x d ∧ Sm B n d
theorem El.imp {G G' : Kn} {B n : Nat} {x : V} (h : El G B n x) (i : ∀ a o, G a o → G' a o) : El G' B n x := ⟨let ⟨t, p⟩ := h.ty; ⟨t, p.imp i⟩, let ⟨d, q, s⟩ := h.d; ⟨d, q.imp i _ _, s⟩⟩
theorem El.up {G : Kn} {B n B' n' : Nat} {x : V} (h : El G B n x) (b : B ≤ B') (m : n ≤ n') : El G B' n' x := ⟨h.ty, let ⟨d, q, s⟩ := h.d; ⟨d, q, s.up b m⟩⟩
theorem ItD.el {G : Kn} {B n : Nat} {x : V} (h : ItD G B n x) : El G B n x := ⟨by
  cases h.it with
  | pk h _ => exact ⟨_, h⟩
  | ls e _ _ => exact ⟨_, .lst e⟩, h.d⟩
theorem els_dq {G : Kn} {B n : Nat} : ∀ {xs : List V}, (∀ x ∈ xs, El G B n x) → ∃ ds, DqAll G xs ds ∧ ds.length = xs.length ∧ ∀ d ∈ ds, Sm B n d
  | [], _ => ⟨[], .nil, rfl, by simp⟩
  | x :: xs, h => by
    obtain ⟨ds, h1, h2, h3⟩ := els_dq (xs := xs) fun y hy => h y (List.mem_cons_of_mem _ hy)
    obtain ⟨d, q, s⟩ := (h x (by simp)).d
    exact ⟨d :: ds, .cons q h1, by simp [h2], fun e he => (List.mem_cons.mp he).elim (fun z => by rw [z]; exact s) (h3 e)⟩
theorem ItD.list {G : Kn} {B n k : Nat} {b : Addr} {xs : List V} (e : G b (.lst xs)) (hk : xs.length ≤ k) (hk1 : k ≤ 1000) (h : ∀ x ∈ xs, El G B n x) : ItD G (k * (B + 2) + 3) (n + 1) (.ref b) := by
  obtain ⟨ds, h1, h2, h3⟩ := els_dq h
  exact ⟨.ls e (Nat.le_trans hk hk1) fun y hy => (h y hy).ty, _, .lst e h1, .list h3 (by omega)⟩
theorem ItD.tuple {G : Kn} {B n k : Nat} {b : Addr} {xs : List V} (e : G b (.tup xs)) (hk : xs.length ≤ k) (h : ∀ x ∈ xs, El G B n x) : ItD G (k * (B + 2) + 3) (n + 1) (.ref b) := by
  obtain ⟨ds, h1, h2, h3⟩ := els_dq h
  exact ⟨.pk (.tup e) (by decide), _, .tup e h1, .tuple h3 (by omega)⟩
theorem ItD.dict0 {G : Kn} {b : Addr} (e : G b (.dK [])) : ItD G 3 1 (.ref b) := ⟨.pk (.dK e) (by decide), _, .dK e .nil, Sm.dict (B := 0) (n := 0) (k := 0) (by simp) (by simp)⟩
theorem ItD.dict1 {G : Kn} {B n : Nat} {b : Addr} {x : Str} {v : V} (e : G b (.dK [(.inr x, v)])) (hx : (PyData.str x).shown.length ≤ B) (h : El G B n v) : ItD G (1 * (2 * B + 4) + 3) (n + 1) (.ref b) := by
  obtain ⟨d, q, s⟩ := h.d
  refine ⟨.pk (.dK e) (by decide), _, .dK e (.cons q .nil), Sm.dict (fun p hp => ?_) (Nat.le_refl _)⟩
  rw [List.mem_singleton.mp hp]
  exact ⟨⟨by simp [keyD, PyData.showable], by simp [keyD, PyData.depth], hx⟩, s⟩
theorem ItD.flat {G : Kn} {x : V} {d : PyData} {t : String} (f : Fl x d) (p : Pk G x t) (n : t ≠ "list") : ItD G 1921 0 x := ⟨.pk p n, d, f.dq, f.sm⟩
theorem ItD.int {G : Kn} {i : Int} (h : i.natAbs.log2 < 1920) : ItD G 1921 0 (.int i) := .flat (.int h) (.int i) (by decide)
theorem ItD.non {G : Kn} : ItD G 1921 0 .non := .flat .non .non (by decide)
theorem ItD.bl {G : Kn} {b : Bool} : ItD G 1921 0 (.bl b) := .flat .bl (.bl b) (by decide)
theorem ItD.str {G : Kn} {x : Str} (h : (PyData.str x).shown.length ≤ 1921 ∧ PyData.strOk x = true) : ItD G 1921 0 (.str x) := .flat (.str h) (.str x) (by decide)

local macro_rules | `(tactic| fail "nx") => `(tactic| ((with_reducible show rs _ _ _ _ _ _ _); (with_reducible apply rs_tug); (fail "spot"); (fail "mark"); (omega); (omega); (omega); (omega); (omega); (omega); (omega); (intro _ _ _ _ _ _ _ _)))
local macro_rules | `(tactic| fail "asg") => `(tactic| ((with_reducible refine kb_seq ?_); (with_reducible refine' Body.asgT ?bd ?hs ?hw ?h1 ?h); (case bd => (with_reducible assumption)); (case hs => (intro env he; cases env; cases he; rfl)); (case hw => (intro env he; cases env; cases he; rfl)); (case h1 => rfl)))
local macro_rules | `(tactic| fail "dn") => `(tactic| first
  | (with_reducible refine ke_revL ?_)
  | ((with_reducible refine ke_dnew ?_); (intro _ _))
  | ((with_reducible refine ke_dict1 ?_); (intro _ _)))
local macro_rules | `(tactic| fail "x") => `(tactic| repeat first | fail "dn" | fail "1" | fail "nx")
section
variable {P : Program} {w : World} {K : PySem.W.Frag} {mg : Str → Option Value} {base : Heap} {c : Cp}
/-- the numbers of a scene -/
structure Drawn (ps : List T2) (ts : List Int) : Prop where
  n0 : 1 ≤ ps.length
  n1 : ps.length ≤ 40
  len : ts.length = ps.length
  big : ∀ p ∈ ps, 1 ≤ p.x ∧ p.x ≤ topU
  dep : ∀ (k : Nat) (p : T2) (t : Int), ps[k]? = some p → ts[k]? = some t → 0 ≤ t ∧ t < p.x
theorem strI_item {G : Kn} {i : Int} (h : i.natAbs.log2 < 1920) : ItD G 20000 0 (.str (toString i)) := by
  refine ⟨.pk (.str _) (by decide), _, .str _, by simp [PyData.showable], by simp [PyData.depth], ?_⟩
  show (reprText (toString i)).length ≤ 20000
  have l := StrLaws.reprText_len (toString i) (fun c hc => ?_)
  · have := PyProof.Rows.int_text_len_1921 h
    have e : ((toString i : String) : Str).length ≤ 1921 := this
    omega
  · rw [Str.ofString_eq_toList] at hc
    have hc : c ∈ (toString i).toList.map Char.toNat := by simpa using hc
    obtain ⟨ch, _, rfl⟩ := List.mem_map.mp hc
    have := ch.val.toNat_lt
    exact Nat.lt_of_lt_of_le this (by decide)
theorem ints_el {G : Kn} {is : List Int} (g : ∀ u ∈ is, 0 ≤ u ∧ u ≤ 1000000000000000000000000000000000000000000000000000000000000) : ∀ x ∈ is.map V.int, El G 4000 2 x := fun x hx => by
  obtain ⟨u, hu, rfl⟩ := List.mem_map.mp hx
  have := g u hu
  exact (ItD.int (log_of (by omega))).el.up (by decide) (by decide)
theorem mk_list {G : Kn} {b : Addr} {xs : List V} (e : G b (.lst xs)) (hk : xs.length ≤ 60) (h : ∀ x ∈ xs, El G 4000 2 x) : ItD G 1000000 10 (.ref b) := (ItD.list e hk (by decide) h).up (by decide) (by decide)
theorem others_items {al : Addr} {ts S1 S2 : List Int} {NA NB YS : LL} {OD : List V} {ys : List (Addr × List V)} {i : Nat} {dA D1 D2 t3 t5 t7 t8 t9 tA tE tF tG : Addr} {t : Int} (lt : ts.length ≤ 40) (l1 : S1.length ≤ 40) (l2 : S2.length ≤ 40)
    (g0 : ∀ u ∈ ts, 0 ≤ u ∧ u ≤ 1000000000000000000000000000000000000000000000000000000000000) (g1 : ∀ u ∈ S1, 0 ≤ u ∧ u ≤ 1000000000000000000000000000000000000000000000000000000000000) (g2 : ∀ u ∈ S2, 0 ≤ u ∧ u ≤ 1000000000000000000000000000000000000000000000000000000000000)
    (eNB : NB = [(tG, .lst []), (tF, .tup []), (tE, .dK []), (tA, .lst [.ref al]), (t9, .tup (ts.map V.int)), (t8, .lst (ts.map V.int).reverse), (t7, .lst (ts.map V.int ++ (ts.map V.int).take 1)), (t5, .lst (ts.map V.int ++ [.int 0])), (t3, .lst ((ts.map V.int).take i ++ (ts.map V.int).drop (i + 1)))])
    (hOD : ∀ y ∈ OD, El (At NA) 4000 2 y) (eYS : YS = ys.map fun b => (b.1, .lst b.2)) (f2 : F2 (fun x b => b.2 = (ts.map V.int).take i ++ [x] ++ (ts.map V.int).drop (i + 1)) OD ys) (lgt : t.natAbs.log2 < 1920) :
    ∀ v ∈ (ys.map fun b => V.ref b.1) ++ [.ref t3, .ref t5, .ref t7, .ref t8, .ref t9, .ref tA] ++ [.non, .int 0, .str "", .ref tE, .ref tF, .ref tG] ++ [.ref D1, .ref D2, .ref dA, .bl true, .str (toString t)],
      ItD (At (((dA, .dK [(.inr "ats", .ref al)]) :: (D2, .lst (S2.map V.int)) :: (D1, .lst (S1.map V.int)) :: (NB ++ (NA ++ YS))) ++ [(al, .lst (ts.map V.int))])) 1000000 10 v := by
  obtain ⟨G, eG⟩ : ∃ G : LL, G = ((dA, .dK [(.inr "ats", .ref al)]) :: (D2, .lst (S2.map V.int)) :: (D1, .lst (S1.map V.int)) :: (NB ++ (NA ++ YS))) ++ [(al, .lst (ts.map V.int))] := ⟨_, rfl⟩
  have hB : ∀ q ∈ NB, At G q.1 q.2 := fun q hq => .of_mem (by rw [eG]; simp [hq])
  have hA : ∀ a o, At NA a o → At G a o := fun a o h => .of_mem (by rw [eG]; simp [h.mem])
  have hY : ∀ q ∈ YS, At G q.1 q.2 := fun q hq => .of_mem (by rw [eG]; simp [hq])
  have h1 : At G D1 (.lst (S1.map V.int)) := .of_mem (by rw [eG]; simp)
  have h2 : At G D2 (.lst (S2.map V.int)) := .of_mem (by rw [eG]; simp)
  have h3 : At G dA (.dK [(.inr "ats", .ref al)]) := .of_mem (by rw [eG]; simp)
  have h4 : At G al (.lst (ts.map V.int)) := .of_mem (by rw [eG]; simp)
  rw [← eG]
  clear eG
  have e0 := ints_el (G := At G) g0
  have lm : (ts.map V.int).length = ts.length := List.length_map _
  have tk : ∀ n, ∀ x ∈ (ts.map V.int).take n, El (At G) 4000 2 x := fun n x hx => e0 x (List.mem_of_mem_take hx)
  have dr : ∀ n, ∀ x ∈ (ts.map V.int).drop n, El (At G) 4000 2 x := fun n x hx => e0 x (List.mem_of_mem_drop hx)
  have ap : ∀ {xs ys : List V}, (∀ x ∈ xs, El (At G) 4000 2 x) → (∀ x ∈ ys, El (At G) 4000 2 x) → ∀ x ∈ xs ++ ys, El (At G) 4000 2 x := fun a b x hx => (List.mem_append.mp hx).elim (a x) (b x)
  have on : ∀ {v : V}, El (At G) 4000 2 v → ∀ x ∈ [v], El (At G) 4000 2 x := fun a x hx => by rw [List.mem_singleton.mp hx]; exact a
  have lal : ItD (At G) (60 * (1921 + 2) + 3) 1 (.ref al) := ItD.list (k := 60) h4 (by omega) (by decide) fun x hx => by
    obtain ⟨u, hu, rfl⟩ := List.mem_map.mp hx
    have := g0 u hu
    exact (ItD.int (log_of (by omega))).el
  rw [eNB] at hB
  intro v hv
  rcases List.mem_append.mp hv with hv | hv
  · rcases List.mem_append.mp hv with hv | hv
    · rcases List.mem_append.mp hv with hv | hv
      · obtain ⟨b, hb, rfl⟩ := List.mem_map.mp hv
        obtain ⟨x, hx, eb⟩ := f2.right b hb
        refine mk_list (xs := b.2) (hY (b.1, .lst b.2) (by rw [eYS]; exact List.mem_map.mpr ⟨b, hb, rfl⟩)) ?_ ?_
        · rw [eb]
          simp only [List.length_append, List.length_take, List.length_drop, lm, List.length_singleton]
          omega
        · rw [eb]
          exact ap (ap (tk i) (on ((hOD x hx).imp hA))) (dr (i + 1))
      · simp only [List.mem_cons, List.not_mem_nil, or_false] at hv
        rcases hv with rfl | rfl | rfl | rfl | rfl | rfl
        · exact mk_list (hB (_, .lst ((ts.map V.int).take i ++ (ts.map V.int).drop (i + 1))) (by simp)) (by simp only [List.length_append, List.length_take, List.length_drop, lm]; omega) (ap (tk _) (dr _))
        · exact mk_list (hB (_, .lst (ts.map V.int ++ [.int 0])) (by simp)) (by simp only [List.length_append, lm, List.length_singleton]; omega) (ap e0 (on ((ItD.int (by decide)).el.up (by decide) (by decide))))
        · exact mk_list (hB (_, .lst (ts.map V.int ++ (ts.map V.int).take 1)) (by simp)) (by simp only [List.length_append, List.length_take, lm]; omega) (ap e0 (tk _))
        · exact mk_list (hB (_, .lst (ts.map V.int).reverse) (by simp)) (by rw [List.length_reverse, lm]; omega) fun x hx => e0 x (List.mem_reverse.mp hx)
        · exact (ItD.tuple (k := 60) (hB (_, .tup (ts.map V.int)) (by simp)) (by rw [lm]; omega) e0).up (by decide) (by decide)
        · exact (ItD.list (k := 1) (hB (_, .lst [.ref al]) (by simp)) (Nat.le_refl _) (by decide) fun x hx => by rw [List.mem_singleton.mp hx]; exact lal.el).up (by decide) (by decide)
    · simp only [List.mem_cons, List.not_mem_nil, or_false] at hv
      rcases hv with rfl | rfl | rfl | rfl | rfl | rfl
      · exact ItD.non.up (by decide) (by decide)
      · exact (ItD.int (by decide)).up (by decide) (by decide)
      · exact (ItD.str (by decide +kernel)).up (by decide) (by decide)
      · exact (ItD.dict0 (hB (_, .dK []) (by simp))).up (by decide) (by decide)
      · exact (ItD.tuple (k := 0) (B := 0) (n := 0) (hB (_, .tup []) (by simp)) (Nat.le_refl _) (fun x hx => nomatch hx)).up (by decide) (by decide)
      · exact mk_list (hB (_, .lst []) (by simp)) (by decide) (fun x hx => nomatch hx)
  · simp only [List.mem_cons, List.not_mem_nil, or_false] at hv
    rcases hv with rfl | rfl | rfl | rfl | rfl
    · exact mk_list h1 (by rw [List.length_map]; omega) (ints_el g1)
    · exact mk_list h2 (by rw [List.length_map]; omega) (ints_el g2)
    · exact (ItD.dict1 h3 (Nat.le_trans (show (PyData.str "ats").shown.length ≤ 1921 by decide +kernel) (by decide)) lal.el).up (by decide) (by decide)
    · exact ItD.bl.up (by decide) (by decide)
    · exact (strI_item lgt).up (by decide) (by decide)
def spOthers : Sp := fun vs H Q _ => ∃ (f l al : Addr) (a b c : Int) (ps : List T2) (ts : List Int), vs = [.ref f, .ref l, .ref al] ∧ H f = some (feedO a b c) ∧ 0 ≤ a ∧ 0 ≤ b ∧ b ≤ 1000000000000000000000000000000000000000000 ∧ 0 ≤ c ∧ c ≤ 100000000000000000000000000000 ∧ H l = some (.lst (ps.map T2.v)) ∧ (∀ p ∈ ps, H p.a = some p.o.2) ∧ H al = some (.lst (ts.map V.int)) ∧ al ≠ f ∧ Drawn ps ts ∧
  ∀ (R : Addr) (vs : List V) (N : LL) (a' c' : Int), H R = none → (∀ q ∈ N, H q.1 = none) → 0 ≤ a' → c ≤ c' → c' ≤ c + 100 → vs.length ≤ 900 → (∀ v ∈ vs, ItD (At (N ++ [(al, .lst (ts.map V.int))])) 1000000 10 v) → RetC H Q (.ref R) f (feedO a' b c') ((R, .lst vs) :: N)
theorem ok_others (T : Tx P K mg c) : DefT P w K mg base CX0 2 "_law_others" spOthers :=
  T.others.ok bi_others fun f fd F => fk_body F sc_others lo_others pl_others (by (conv => lhs; whnf)) (fun vs H Q E h => by obtain ⟨f, l, al, a, b, c, ps, ts, rfl, _⟩ := h; rfl) (fun X bd ns H vs Q E h => by
    obtain ⟨f, l, al, a, b, c, ps, ts, rfl, hf, ha, hb, hb1, hc, hc1, hl, hps, hal, nal, dr, k⟩ := h
    have nm := bd.nm
    have hB := T.blt
    have d1 := ok_tug (P := P) (w := w) (base := base) T
    obtain ⟨n0, n1, hlen, hbig, hdep⟩ := dr
    obtain ⟨LB, iL, iP, iT, hLB⟩ : ∃ LB : LL, At LB l (.lst (ps.map T2.v)) ∧ Alls T2.o LB ps ∧ At LB al (.lst (ts.map V.int)) ∧ ∀ q ∈ LB, H q.1 = some q.2 ∧ q.1 ≠ f := by
      have no : ∀ {b' : Addr} {o : HO}, H b' = some o → o ≠ feedO a b c → b' ≠ f := fun {b' o} e z hb => by
        subst hb
        rw [hf] at e
        exact z (Option.some.inj e).symm
      refine ⟨(l, .lst (ps.map T2.v)) :: (al, .lst (ts.map V.int)) :: ps.map T2.o, .here, fun x hx => .there (.there (Alls.self x hx)), .there .here, fun q hq => ?_⟩
      rcases List.mem_cons.mp hq with rfl | hq
      · refine ⟨hl, no hl fun e => ?_⟩
        cases ps with
        | nil => simp at n0
        | cons p ps => cases e
      rcases List.mem_cons.mp hq with rfl | hq
      · exact ⟨hal, nal⟩
      · obtain ⟨x, hx, rfl⟩ := List.mem_map.mp hq
        exact ⟨hps x hx, no (hps x hx) (fun e => nomatch e)⟩
    have z0 := Hs.anyM (a := f) (o := feedO a b c) (L := LB) (H := H) hf (fun q hq => (hLB q hq).1) (fun q hq => (hLB q hq).2)
    with_reducible refine wb_go (L := _) (σ := [some (.ref f), some (.ref l), some (.ref al), none, none, none, none, none, none, none, none, none, none]) ?e z0 ?_
    (case e => rfl)
    have lnt : (ts.map V.int).length = ts.length := List.length_map _
    fail "asg"
    fail "x"
    rename_i rA aA cA hA1 hA2 haA hcA hcA2 rB aB cB hB1 hB2 haB hcB hcB2 pt npt
    obtain ⟨i, rfl⟩ := Int.eq_ofNat_of_zero_le hA1
    obtain ⟨j, rfl⟩ := Int.eq_ofNat_of_zero_le hB1
    obtain ⟨p, hp⟩ : ∃ p, ps[i]? = some p := ⟨_, List.getElem?_eq_getElem (by omega)⟩
    obtain ⟨q, hq⟩ : ∃ p, ps[j]? = some p := ⟨_, List.getElem?_eq_getElem (by omega)⟩
    obtain ⟨t, ht⟩ : ∃ p, ts[i]? = some p := ⟨_, List.getElem?_eq_getElem (by omega)⟩
    have gp := hbig p (List.mem_of_getElem? hp)
    have gq := hbig q (List.mem_of_getElem? hq)
    have gp2 : p.x ≤ 100000000000000000000000000000000000000000000000000 := gp.2
    have gq2 : q.x ≤ 100000000000000000000000000000000000000000000000000 := gq.2
    have dt := hdep i p t hp ht
    have ip : At LB p.a (.tup [.int p.x, .int p.y]) := iP p (List.mem_of_getElem? hp)
    have iq : At LB q.a (.tup [.int q.x, .int q.y]) := iP q (List.mem_of_getElem? hq)
    refine ix_lst (v := p.v) (.there (.there iL)) (atI_nat rfl (by rw [List.getElem?_map, hp]; rfl)) ?_
    fail "x"
    refine ix_tp (p := p.a) (xs := [.int p.x, .int p.y]) (.there (.there ip)) (v := .int p.x) (i := 0) (by rfl) ?_
    fail "x"
    refine ix_lst (v := .int t) (.there (.there iT)) (atI_nat rfl (by rw [List.getElem?_map, ht]; rfl)) ?_
    fail "x"
    refine ix_lst (v := q.v) (.there (.there iL)) (atI_nat rfl (by rw [List.getElem?_map, hq]; rfl)) ?_
    fail "x"
    refine ix_tp (p := q.a) (xs := [.int q.x, .int q.y]) (.there (.there iq)) (v := .int q.x) (i := 0) (by rfl) ?_
    fail "x"
    rename_i qA nqA rC aC cC hC1 hC2 haC hcC hcC2 qB nqB
    refine ro_cat (.there .here) .here (sz1000 rfl) ?_
    intro qC nqC
    fail "x"
    rename_i qD nqD qE nqE qF nqF qG nqG
    refine ⟨_, .here, ?_⟩
    fail "x"
    refine ro_cat (.there (.there (.there (.there (.there .here))))) .here (sz1000 rfl) ?_
    intro qH nqH
    fail "x"
    obtain ⟨NA, eNA⟩ : ∃ NA : LL, NA = [(qG, .dK [(.inr "_", .int t)]), (qF, .dK []), (qE, .tup [.int t]), (qD, .lst [.int t])] := ⟨_, rfl⟩
    have nNA : ∀ q ∈ NA, H q.1 = none := by
      rw [eNA]
      simp [nqG, nqF, nqE, nqD]
    have lgt : t.natAbs.log2 < 1920 := log_of (by omega)
    obtain ⟨OD, eOD⟩ : ∃ OD : List V, OD = ([.int ((t + 1) % p.x), .int (t + p.x), .int (t - p.x), .int ((t + q.x) % p.x)] ++ [.int rC, .int p.x, .int (-1)]) ++ [.int 0, .non, .bl true, .bl false, .str "0", .str "", .ref qD, .ref qE, .ref qF, .int 100000000000000000000000000000000000000000000000000000000000, .int (0 - 100000000000000000000000000000000000000000000000000000000000), .ref qG] := ⟨_, rfl⟩
    have m1 := Int.emod_nonneg (t + 1) (show p.x ≠ 0 by omega)
    have m2 := Int.emod_lt_of_pos (t + 1) (show 0 < p.x by omega)
    have m3 := Int.emod_nonneg (t + q.x) (show p.x ≠ 0 by omega)
    have m4 := Int.emod_lt_of_pos (t + q.x) (show 0 < p.x by omega)
    have iD : ItD (At NA) 1926 1 (.ref qD) := by
      rw [eNA]
      exact ItD.list (xs := [.int t]) (k := 1) (show At _ qD (.lst [.int t]) from .there (.there (.there .here))) (Nat.le_refl 1) (by decide) fun x hx => by rw [List.mem_singleton.mp hx]; exact (ItD.int lgt).el
    have iE : ItD (At NA) 1926 1 (.ref qE) := by
      rw [eNA]
      exact ItD.tuple (xs := [.int t]) (k := 1) (show At _ qE (.tup [.int t]) from .there (.there .here)) (Nat.le_refl 1) fun x hx => by rw [List.mem_singleton.mp hx]; exact (ItD.int lgt).el
    have iF : ItD (At NA) 3 1 (.ref qF) := by
      rw [eNA]
      exact ItD.dict0 (show At _ qF (.dK []) from .there .here)
    have iG : ItD (At NA) 3849 1 (.ref qG) := by
      rw [eNA]
      exact ItD.dict1 (B := 1921) (show At _ qG (.dK [(.inr "_", .int t)]) from .here) (by decide +kernel) (ItD.int lgt).el
    have hOD : ∀ y ∈ OD, El (At NA) 4000 2 y := by
      intro y hy
      rw [eOD] at hy
      simp only [List.cons_append, List.nil_append, List.mem_cons, List.not_mem_nil, or_false] at hy
      rcases hy with rfl | rfl | rfl | rfl | rfl | rfl | rfl | rfl | rfl | rfl | rfl | rfl | rfl | rfl | rfl | rfl | rfl | rfl | rfl
      · exact (ItD.int (log_of (by omega))).el.up (by decide) (by decide)
      · exact (ItD.int (log_of (by omega))).el.up (by decide) (by decide)
      · exact (ItD.int (log_of (by omega))).el.up (by decide) (by decide)
      · exact (ItD.int (log_of (by omega))).el.up (by decide) (by decide)
      · exact (ItD.int (log_of (by omega))).el.up (by decide) (by decide)
      · exact (ItD.int (log_of (by omega))).el.up (by decide) (by decide)
      · exact (ItD.int (log_of (by omega))).el.up (by decide) (by decide)
      · exact (ItD.int (log_of (by omega))).el.up (by decide) (by decide)
      · exact ItD.non.el.up (by decide) (by decide)
      · exact ItD.bl.el.up (by decide) (by decide)
      · exact ItD.bl.el.up (by decide) (by decide)
      · exact (ItD.str (by decide +kernel)).el.up (by decide) (by decide)
      · exact (ItD.str (by decide +kernel)).el.up (by decide) (by decide)
      · exact iD.el.up (by decide) (by decide)
      · exact iE.el.up (by decide) (by decide)
      · exact iF.el.up (by decide) (by decide)
      · exact (ItD.int (log_of (by omega))).el.up (by decide) (by decide)
      · exact (ItD.int (log_of (by omega))).el.up (by decide) (by decide)
      · exact iG.el.up (by decide) (by decide)
    have lOD : OD.length = 19 := by rw [eOD]; rfl
    obtain ⟨LM, eLM⟩ : ∃ LM : LL, LM = NA ++ LB := ⟨_, rfl⟩
    have jL : At LM l (.lst (ps.map T2.v)) := by rw [eLM]; exact .app_r iL
    have jT : At LM al (.lst (ts.map V.int)) := by rw [eLM]; exact .app_r iT
    have jP : Alls T2.o LM ps := by rw [eLM]; exact fun x hx => .app_r (iP x hx)
    refine kb_subP (L' := (f, feedO aC b cC) :: (qH, .lst OD) :: LM) (L'' := (qH, .lst OD) :: (NA ++ (f, feedO aC b cC) :: LB)) ?_ ?_ ?_
    · rw [eLM]
      exact (List.Perm.swap _ _ _).trans (.cons _ List.perm_middle.symm)
    · rw [eNA, eOD]
      exact .cons₂ _ (.cons _ (.cons₂ _ (.cons₂ _ (.cons₂ _ (.cons₂ _ (.cons _ (.cons _ (.cons _ (.cons _ (.refl _))))))))))
    refine kb_seq (Body.setKl bd ns (own := [("one", 11)]) (by fail "mem") rfl rfl rfl rfl ⟨rfl, by decide +kernel, by decide +kernel, by decide +kernel, by decide +kernel⟩ (by intro _; rfl) ?_)
    refine Body.klMs false (α := V) (β := Addr × List V) (fun v => v) (fun b => .ref b.1) (fun b => (b.1, .lst b.2)) (fun x b => b.2 = (ts.map V.int).take i ++ [x] ++ (ts.map V.int).drop (i + 1)) bd ns [("one", 11)] ["one", "ats", "at"] ["one"] (by decide +kernel) (by decide +kernel) (by decide +kernel) ?_
    fail "x"
    have szs : ∀ {n : Nat}, n ≤ 1000 → n ≤ sizeLine := fun h => Nat.le_trans h (sz1000 rfl)
    refine ⟨qH, OD, rfl, by (show At _ qH (.lst _)); rw [List.map_id']; exact .there .here, by omega, fun x hx L0 lf B bB nB => ?_, fun D ys nD f2 nys => ?_⟩
    · rw [show wipe [some (V.ref f), some (V.ref l), some (V.ref al), some (V.int i), some (V.int j), some (V.int p.x), some (V.int t), some (V.ref qH), none, none, none, none, none] _ = [some (V.ref f), some (V.ref l), some (V.ref al), some (V.int i), some (V.int j), some (V.int p.x), some (V.int t), some (V.ref qH), none, none, none, none, none] from rfl]
      have nm1 := bB.nm
      have kT : At L0 al (.lst (ts.map V.int)) := lf _ _ (.there (.there jT))
      fail "x"
      intro B2 bB2
      have nm2 := bB2.nm
      fail "x"
      refine sl_eq kT (cut_t rfl) ?_
      intro s1 ns1
      fail "x"
      rename_i s2 ns2
      refine ro_cat (.there .here) .here (szs (by rw [List.length_take, lnt, List.length_singleton]; omega)) ?_
      intro s3 ns3
      fail "x"
      refine sl_eq (.there (.there (.there kT))) (cut_d (k := i + 1) rfl (by rw [lnt]; omega)) ?_
      intro s4 ns4
      fail "x"
      refine ro_cat (.there .here) .here (szs (by simp only [List.length_append, List.length_take, List.length_drop, lnt, List.length_singleton]; omega)) ?_
      intro s5 ns5
      exact ⟨(s5, _), rfl, rfl, ns5, .cons₂ _ (.cons _ (.cons _ (.cons _ (.cons _ (.refl _)))))⟩
    · fail "1"
      obtain ⟨FD, eFD⟩ : ∃ FD : List V, FD = ys.map fun b => .ref b.1 := ⟨_, rfl⟩
      obtain ⟨YS, eYS⟩ : ∃ YS : LL, YS = ys.map fun b => (b.1, .lst b.2) := ⟨_, rfl⟩
      rw [← eFD, ← eYS]
      have lFD : FD.length = 19 := by rw [eFD, List.length_map, ← f2.len, lOD]
      obtain ⟨LY, eLY⟩ : ∃ LY : LL, LY = LM ++ YS := ⟨_, rfl⟩
      have kL : At LY l (.lst (ps.map T2.v)) := by rw [eLY]; exact .app_l jL
      have kT : At LY al (.lst (ts.map V.int)) := by rw [eLY]; exact .app_l jT
      have kP : Alls T2.o LY ps := by rw [eLY]; exact fun x hx => .app_l (jP x hx)
      refine kb_sub (L' := (D, .lst FD) :: (f, feedO aC b cC) :: LY) ?_ ?_
      · rw [eLY]
        exact .cons₂ _ (.cons₂ _ (.cons _ (.refl _)))
      fail "x"
      refine sl_eq (.there (.there kT)) (cut_t rfl) ?_
      intro t1 nt1
      fail "x"
      refine sl_eq (.there (.there (.there kT))) (cut_d (k := i + 1) rfl (by rw [lnt]; omega)) ?_
      intro t2 nt2
      fail "x"
      refine ro_cat (.there .here) .here (szs (by simp only [List.length_append, List.length_take, List.length_drop, lnt]; omega)) ?_
      intro t3 nt3
      fail "x"
      rename_i t4 nt4
      refine ro_cat (.there (.there (.there (.there (.there (.there kT)))))) .here (szs (by rw [lnt, List.length_singleton]; omega)) ?_
      intro t5 nt5
      fail "x"
      refine sl_eq (by fail "at") (cut_t (k := 1) rfl) ?_
      intro t6 nt6
      fail "x"
      refine ro_cat (xs := ts.map V.int) (by fail "at") .here (szs (by simp only [List.length_take, lnt]; omega)) ?_
      intro t7 nt7
      fail "x"
      refine ⟨al, ts.map V.int, rfl, by fail "at", ?_⟩
      intro t8 nt8
      fail "x"
      rename_i t9 nt9 tA ntA tB ntB
      refine ro_cat (xs := FD) (by fail "at") .here (szs (by rw [lFD]; simp only [List.length_cons, List.length_nil]; omega)) ?_
      intro tC ntC
      fail "x"
      rename_i tE ntE tF ntF tG ntG tH ntH
      refine ro_cat (by fail "at") .here (szs (by rw [List.length_append, lFD]; simp only [List.length_cons, List.length_nil]; omega)) ?_
      intro tI ntI
      fail "1"
      obtain ⟨NB, eNB⟩ : ∃ NB : LL, NB = [(tG, .lst []), (tF, .tup []), (tE, .dK []), (tA, .lst [.ref al]), (t9, .tup (ts.map V.int)), (t8, .lst (ts.map V.int).reverse), (t7, .lst (ts.map V.int ++ (ts.map V.int).take 1)), (t5, .lst (ts.map V.int ++ [.int 0])), (t3, .lst ((ts.map V.int).take i ++ (ts.map V.int).drop (i + 1)))] := ⟨_, rfl⟩
      have nNB : ∀ q ∈ NB, H q.1 = none := by
        rw [eNB]
        simp [ntG, ntF, ntE, ntA, nt9, nt8, nt7, nt5, nt3]
      obtain ⟨FE, eFE⟩ : ∃ FE : List V, FE = FD ++ [.ref t3, .ref t5, .ref t7, .ref t8, .ref t9, .ref tA] ++ [.non, .int 0, .str "", .ref tE, .ref tF, .ref tG] := ⟨_, rfl⟩
      have lFE : FE.length = 31 := by rw [eFE]; simp only [List.length_append, lFD, List.length_cons, List.length_nil]
      obtain ⟨LZ, eLZ⟩ : ∃ LZ : LL, LZ = NB ++ LY := ⟨_, rfl⟩
      have zL : At LZ l (.lst (ps.map T2.v)) := by rw [eLZ]; exact .app_r kL
      have zT : At LZ al (.lst (ts.map V.int)) := by rw [eLZ]; exact .app_r kT
      have zP : Alls T2.o LZ ps := by rw [eLZ]; exact fun x hx => .app_r (kP x hx)
      refine kb_subP (L' := (tI, .lst FE) :: (f, feedO aC b cC) :: LZ) (L'' := (tI, .lst FE) :: (NB ++ (f, feedO aC b cC) :: LY)) ?_ ?_ ?_
      · rw [eLZ]
        exact .cons _ List.perm_middle.symm
      · rw [eNB, eFE]
        exact .cons₂ _ (.cons _ (.cons₂ _ (.cons₂ _ (.cons₂ _ (.cons _ (.cons _ (.cons₂ _ (.cons₂ _ (.cons₂ _ (.cons₂ _ (.cons _ (.cons₂ _ (.cons _ (.cons₂ _ (.cons _ (.cons _ (.cons _ (.refl _))))))))))))))))))
      refine kb_seq (Body.setKl bd ns (own := [("one", 11), ("pair", 12)]) (by fail "mem") rfl rfl rfl rfl ⟨rfl, by decide +kernel, by decide +kernel, by decide +kernel, by decide +kernel⟩ (by intro _; rfl) ?_)
      refine Body.klZ (α := Int) (β := T2) V.int T2.v (fun _ _ => true) (fun t p => .int ((t + 1) % p.x)) bd ns [("one", 11), ("pair", 12)] ["one", "pair"] ["one", "pair"] (by decide +kernel) (by decide +kernel) (by decide +kernel) (bd.gl rfl) (bd.no (hB _ (by fail "mem"))) rfl rfl rfl ?_
      fail "x"
      refine ⟨al, l, ts, ps, rfl, rfl, .there (.there zT), .there (.there zL), by omega, fun k1 t1 p1 ht1 hp1 D1 acc TT nD1 nT B bB nB => ?_, fun D1 nD1 => ?_⟩
      · rw [show wipe [some (V.ref f), some (V.ref l), some (V.ref al), some (V.int i), some (V.int j), some (V.int p.x), some (V.int t), some (V.ref qH), some (V.ref tI), none, none, none, none] _ = [some (V.ref f), some (V.ref l), some (V.ref al), some (V.int i), some (V.int j), some (V.int p.x), some (V.int t), some (V.ref qH), some (V.ref tI), none, none, none, none] from rfl]
        have nm1 := bB.nm
        have hp2 := hbig p1 (List.mem_of_getElem? hp1)
        have ip1 : At ((TT, HO.tup [.int t1, p1.v]) :: (D1, acc) :: (tI, .lst FE) :: (f, feedO aC b cC) :: LZ) p1.a (.tup [.int p1.x, .int p1.y]) := .there (.there (.there (.there (zP p1 (List.mem_of_getElem? hp1)))))
        fail "x"
        intro B2 bB2
        have nm2 := bB2.nm
        refine kf_nil ⟨rfl, .cons _ (.refl _), fun _ B3 bB3 => ?_⟩
        have nm3 := bB3.nm
        fail "x"
        refine ix_tp (p := p1.a) (xs := [.int p1.x, .int p1.y]) ip1 (v := .int p1.x) (i := 0) (by rfl) ?_
        fail "x"
        exact .cons _ (.refl _)
      · fail "1"
        obtain ⟨S1, eS1⟩ : ∃ S1 : List Int, S1 = (ts.zip ps).map fun z => (z.1 + 1) % z.2.x := ⟨_, rfl⟩
        rw [show zipF (fun _ _ => true) (fun (t : Int) (p : T2) => V.int ((t + 1) % p.x)) (ts.zip ps) = S1.map V.int by rw [eS1, List.map_map, zipF, List.filter_eq_self.mpr (fun _ _ => rfl)]; rfl]
        fail "x"
        rename_i rD aD cD hD1 hD2 haD hcD hcD2
        refine Body.lcZ (α := Int) (β := T2) V.int T2.v (fun _ _ => true) (fun t p => .int ((t + rD) % p.x)) bd ns [("one", 11), ("pair", 12)] ["one", "pair", "more"] ["one", "pair"] ⟨rfl, by decide +kernel, by decide +kernel, by decide +kernel, by decide +kernel⟩ (by decide +kernel) (by decide +kernel) (by decide +kernel) (by intro _; rfl) (bd.gl rfl) (bd.no (hB _ (by fail "mem"))) rfl rfl rfl ?_
        fail "x"
        refine ⟨al, l, ts, ps, rfl, rfl, by fail "at", by fail "at", by omega, fun k1 t1 p1 ht1 hp1 D2 acc TT nD2 nT B bB nB => ?_, fun D2 nD2 => ?_⟩
        · rw [show wipe [some (V.ref f), some (V.ref l), some (V.ref al), some (V.int i), some (V.int j), some (V.int p.x), some (V.int t), some (V.ref qH), some (V.ref tI), some (V.ref D1), some (V.int rD), none, none] _ = [some (V.ref f), some (V.ref l), some (V.ref al), some (V.int i), some (V.int j), some (V.int p.x), some (V.int t), some (V.ref qH), some (V.ref tI), some (V.ref D1), some (V.int rD), none, none] from rfl]
          have nm1 := bB.nm
          have hp2 := hbig p1 (List.mem_of_getElem? hp1)
          have ip1 : At LZ p1.a (.tup [.int p1.x, .int p1.y]) := zP p1 (List.mem_of_getElem? hp1)
          fail "x"
          intro B2 bB2
          have nm2 := bB2.nm
          refine kf_nil ⟨rfl, .cons _ (.refl _), fun _ B3 bB3 => ?_⟩
          have nm3 := bB3.nm
          fail "x"
          refine ix_tp (p := p1.a) (xs := [.int p1.x, .int p1.y]) (by fail "at") (v := .int p1.x) (i := 0) (by rfl) ?_
          fail "x"
          exact .cons _ (.refl _)
        · obtain ⟨S2, eS2⟩ : ∃ S2 : List Int, S2 = (ts.zip ps).map fun z => (z.1 + rD) % z.2.x := ⟨_, rfl⟩
          rw [show zipF (fun _ _ => true) (fun (t : Int) (p : T2) => V.int ((t + rD) % p.x)) (ts.zip ps) = S2.map V.int by rw [eS2, List.map_map, zipF, List.filter_eq_self.mpr (fun _ _ => rfl)]; rfl]
          fail "x"
          rename_i dA ndA
          refine ⟨_, .here, ?_⟩
          fail "x"
          refine rc_strI lgt ?_
          fail "x"
          rename_i dB ndB
          refine ro_cat (xs := FE) (by fail "at") .here (szs (by rw [lFE]; simp only [List.length_cons, List.length_nil]; omega)) ?_
          intro R nR
          intro H' z
          obtain ⟨N, eN⟩ : ∃ N : LL, N = (dA, .dK [(.inr "ats", .ref al)]) :: (D2, .lst (S2.map V.int)) :: (D1, .lst (S1.map V.int)) :: (NB ++ (NA ++ YS)) := ⟨_, rfl⟩
          have nYS : ∀ q ∈ YS, H q.1 = none := by
            rw [eYS]
            intro q hq
            obtain ⟨y, hy, rfl⟩ := List.mem_map.mp hq
            exact nys y hy
          have nN : ∀ q ∈ N, H q.1 = none := by
            rw [eN]
            intro q hq
            rcases List.mem_cons.mp hq with rfl | hq
            · exact ndA
            rcases List.mem_cons.mp hq with rfl | hq
            · exact nD2
            rcases List.mem_cons.mp hq with rfl | hq
            · exact nD1
            rcases List.mem_append.mp hq with hq | hq
            · exact nNB q hq
            rcases List.mem_append.mp hq with hq | hq
            · exact nNA q hq
            · exact nYS q hq
          obtain ⟨VS, eVS⟩ : ∃ VS : List V, VS = FE ++ [.ref D1, .ref D2, .ref dA, .bl true, .str (toString t)] := ⟨_, rfl⟩
          rw [← eVS] at z
          have gz : ∀ (r : Int), ∀ u ∈ (ts.zip ps).map (fun z => (z.1 + r) % z.2.x), 0 ≤ u ∧ u ≤ 1000000000000000000000000000000000000000000000000000000000000 := fun r u hu => by
            obtain ⟨y, hy, rfl⟩ := List.mem_map.mp hu
            have hy2 := hbig y.2 (List.of_mem_zip hy).2
            have h3 : y.2.x ≤ 100000000000000000000000000000000000000000000000000 := hy2.2
            have h1 := Int.emod_nonneg (y.1 + r) (show y.2.x ≠ 0 by omega)
            have h2 := Int.emod_lt_of_pos (y.1 + r) (show 0 < y.2.x by omega)
            omega
          have gl : ∀ (r : Int), ((ts.zip ps).map (fun z => (z.1 + r) % z.2.x)).length ≤ 40 := fun r => by rw [List.length_map, List.length_zip]; omega
          have g0 : ∀ u ∈ ts, 0 ≤ u ∧ u ≤ 1000000000000000000000000000000000000000000000000000000000000 := fun u hu => by
            obtain ⟨k2, hk2⟩ := List.getElem?_of_mem hu
            obtain ⟨hk3, -⟩ := List.getElem?_eq_some_iff.mp hk2
            obtain ⟨p2, hp2⟩ : ∃ p, ps[k2]? = some p := ⟨_, List.getElem?_eq_getElem (by omega)⟩
            have h1 := hdep k2 p2 u hp2 hk2
            have h3 : p2.x ≤ 100000000000000000000000000000000000000000000000000 := (hbig p2 (List.mem_of_getElem? hp2)).2
            omega
          have hit : ∀ v ∈ VS, ItD (At (N ++ [(al, .lst (ts.map V.int))])) 1000000 10 v := by
            rw [eVS, eFE, eFD, eN]
            exact others_items (by omega) (by rw [eS1]; exact gl 1) (by rw [eS2]; exact gl rD) g0 (by rw [eS1]; exact gz 1) (by rw [eS2]; exact gz rD) eNB hOD eYS f2 lgt
          refine k R VS N aD cD nR nN haD (by omega) (by omega) ?_ hit H' (z.chg0 (by fail "at") (z.newsS (N := (R, .lst VS) :: N) ?_ ?_))
          · rw [eVS, List.length_append, lFE]
            simp only [List.length_cons, List.length_nil]
            omega
          · rw [eN, eLZ, eLY, eLM]
            refine .cons₂ _ (.cons _ (.cons₂ _ (.cons₂ _ (.cons₂ _ (.cons _ (.cons _ ((List.Sublist.refl NB).append ?_)))))))
            rw [List.append_assoc]
            exact (List.Sublist.refl NA).append (List.sublist_append_right _ _)
          · intro q hq
            rcases List.mem_cons.mp hq with rfl | hq
            · exact nR
            · exact nN q hq)
end

local macro_rules | `(tactic| fail "nx") => `(tactic| ((with_reducible show rs _ _ _ _ _ _ _); (with_reducible apply rs_tug); (fail "spot"); (fail "mark"); (omega); (omega); (omega); (omega); (omega); (omega); (omega); (intro _ _ _ _ _ _ _ _)))
local macro_rules | `(tactic| fail "lvr") => `(tactic| ((with_reducible show ∃ _, _); (with_reducible apply precv); (fail "at"); (decide +kernel); (decide +kernel); (decide +kernel); (decide +kernel)))
local macro_rules | `(tactic| fail "x") => `(tactic| repeat first | fail "lvr" | fail "1" | fail "nx")
section
variable {P : Program} {w : World} {K : PySem.W.Frag} {mg : Str → Option Value} {base : Heap} {c : Cp}
theorem tt_on {H0 H : Hp} {M : Addr → Prop} {L LW : LL} {ps : List T2} {ls : List T3w} {hs : List T2} {x : V} (z : Hs H0 M L H) (lf : Lift LW L) (it : It (At LW) x) : TTv (OnH H) ps ls hs x ↔ TTv (At LW) ps ls hs x := by
  constructor
  · rintro ⟨b, is, rfl, e, tt⟩
    have e : H b = _ := e
    cases it with
    | pk h n =>
      cases h with
      | lst e2 => exact absurd rfl n
      | tup e2 =>
        have := z.get (lf _ _ e2)
        rw [e] at this; cases this
      | dK e2 =>
        have := z.get (lf _ _ e2)
        rw [e] at this; cases this
    | ls e2 hl h =>
      have := z.get (lf _ _ e2)
      rw [e] at this
      cases this
      exact ⟨b, is, rfl, e2, tt⟩
  · rintro ⟨b, is, rfl, e, tt⟩
    exact ⟨b, is, rfl, z.get (lf _ _ e), tt⟩
theorem rs_isTT {H0 : Hp} {M : Addr → Prop} {L LW : LL} {Q : V → LL → Prop} {E : XK} {a : Addr} {ps : List T2} {ls : List T3w} {hs : List T2} {lvs : List Lv} {x : V} (pl : PlanH c (At LW) a ps ls hs lvs) (it : It (At LW) x) (lf : Lift LW L) (h : ∀ r : Bool, (r = true ↔ TTv (At LW) ps ls hs x) → Q (.bl r) L) : rs H0 M (spIsTT c) E [.ref a, x] L Q := fun H z =>
  ⟨a, ps, ls, hs, lvs, x, rfl, pl.imp fun _ _ e => z.get (lf _ _ e), (it.imp fun _ _ e => z.get (lf _ _ e)).any, fun r e => z.p0 (h r (e.trans (tt_on z lf it)))⟩
theorem rs_ldue {H0 : Hp} {M : Addr → Prop} {L LW : LL} {Q : V → LL → Prop} {E : XK} {l wl hl : Addr} {ps : List T2} {ls : List T3w} {hs : List T2} {x : V} (il : At LW l (.lst (ps.map T2.v))) (ap : Alls T2.o LW ps) (iw : At LW wl (.lst (ls.map T3w.v))) (aw : Alls T3w.o LW ls) (ih : At LW hl (.lst (hs.map T2.v))) (ah : Alls T2.o LW hs) (ok : PlanIn ps ls hs) (it : It (At LW) x) (lf : Lift LW L)
    (h : ∀ r : Bool, (r = true ↔ TTv (At LW) ps ls hs x) → Q (.bl r) L) : rs H0 M spLDue E [.ref l, .ref wl, .ref hl, x] L Q := fun H z =>
  ⟨l, wl, hl, ps, ls, hs, x, rfl, z.get (lf _ _ il), fun p hp => z.get (lf _ _ (ap p hp)), z.get (lf _ _ iw), fun p hp => z.get (lf _ _ (aw p hp)), z.get (lf _ _ ih), fun p hp => z.get (lf _ _ (ah p hp)), ok, (it.imp fun _ _ e => z.get (lf _ _ e)).any, fun r e => z.p0 (h r (e.trans (tt_on z lf it)))⟩
theorem rs_PlanI {H0 : Hp} {M : Addr → Prop} {L : LL} {Q : V → LL → Prop} {E : XK} {a dx l wl fl : Addr} {ps : List T2} {ls : List T3w} {hs : List T2} {g : HO → LL} (s : Spot L a (.ins c.p dx []) g) (cc : H0 a = none ∨ M a) (il : At L l (.lst (ps.map T2.v))) (al : Alls T2.o L ps) (iw : At L wl (.lst (ls.map T3w.v))) (al2 : Alls T3w.o L ls) (ih : At L fl (.lst (hs.map T2.v))) (ah : Alls T2.o L hs) (ok : PlanIn ps ls hs)
    (h : ∀ (l' w' f' v' : Addr) (lvs : List Lv), PlanOk ps ls hs lvs → (∀ q ∈ planN c l' w' f' v' ps ls hs lvs, H0 q.1 = none) → Q .non (planN c l' w' f' v' ps ls hs lvs ++ g (planO c.p dx l' w' f' v'))) : rs H0 M (spPlanI c) E [.ref a, .ref l, .ref wl, .ref fl] L Q :=
  fun H z => ⟨a, dx, l, wl, fl, ps, ls, hs, rfl, z.at_ _ s.mem, z.get il, al.get z, z.get iw, al2.get z, z.get ih, ah.get z, ok, fun l' w' f' v' lvs h1 h2 => z.cc s cc (h l' w' f' v' lvs h1 fun q hq => z.fresh (h2 q hq))⟩
theorem rs_others {H0 : Hp} {M : Addr → Prop} {L : LL} {Q : V → LL → Prop} {E : XK} {f l al : Addr} {a b c : Int} {ps : List T2} {ts : List Int} {g : HO → LL} (s : Spot L f (feedO a b c) g) (cc : H0 f = none ∨ M f) (ha : 0 ≤ a) (hb : 0 ≤ b) (hb1 : b ≤ 1000000000000000000000000000000000000000000) (hc : 0 ≤ c) (hc1 : c ≤ 100000000000000000000000000000) (il : At L l (.lst (ps.map T2.v))) (ap : Alls T2.o L ps) (ia : At L al (.lst (ts.map V.int))) (ne : al ≠ f) (dr : Drawn ps ts)
    (h : ∀ (R : Addr) (vs : List V) (N : LL) (a' c' : Int), H0 R = none → (∀ q ∈ N, H0 q.1 = none) → 0 ≤ a' → c ≤ c' → c' ≤ c + 100 → vs.length ≤ 900 → (∀ v ∈ vs, ItD (At (N ++ [(al, .lst (ts.map V.int))])) 1000000 10 v) → Q (.ref R) ((R, .lst vs) :: N ++ g (feedO a' b c'))) : rs H0 M spOthers E [.ref f, .ref l, .ref al] L Q :=
  fun H z => ⟨f, l, al, a, b, c, ps, ts, rfl, z.at_ _ s.mem, ha, hb, hb1, hc, hc1, z.get il, ap.get z, z.get ia, ne, dr, fun R vs N a' c' nR nN h1 h2 h3 h4 h5 => z.cc s cc (h R vs N a' c' (z.fresh nR) (fun q hq => z.fresh (nN q hq)) h1 h2 h3 h4 h5)⟩
def spRightP : Sp := fun vs H Q _ => ∃ (f l wl hl al : Addr) (a b c : Int) (ps : List T2) (ls : List T3w) (hs : List T2) (ts : List Int), vs = [.ref f, .ref l, .ref wl, .ref hl, .ref al] ∧ H f = some (feedO a b c) ∧ 0 ≤ a ∧ 0 ≤ b ∧ b ≤ 1000000000000000000000000000000000000000000 ∧ 0 ≤ c ∧ c ≤ 10000000000000000000000000000 ∧ H l = some (.lst (ps.map T2.v)) ∧ (∀ p ∈ ps, H p.a = some p.o.2) ∧ H wl = some (.lst (ls.map T3w.v)) ∧ (∀ p ∈ ls, H p.a = some p.o.2) ∧ H hl = some (.lst (hs.map T2.v)) ∧ (∀ p ∈ hs, H p.a = some p.o.2) ∧ H al = some (.lst (ts.map V.int)) ∧ al ≠ f ∧ Drawn ps ts ∧ PlanIn ps ls hs ∧
  ∀ (a' c' : Int), 0 ≤ a' → c ≤ c' → c' ≤ c + 100000 → RetC H Q (.bl true) f (feedO a' b c') []
theorem ok_rightP (T : Tx P K mg c) : DefT P w K mg base CX0 8 "_law_right" spRightP :=
  T.right.ok bi_right fun f fd F => fk_body F sc_right lo_right pl_right (by (conv => lhs; whnf)) (fun vs H Q E h => by obtain ⟨f, l, wl, hl, al, a, b, e, ps, ls, hs, ts, rfl, _⟩ := h; rfl) (fun X bd ns H vs Q E h => by
    obtain ⟨f, l, wl, hl, al, a, b, e, ps, ls, hs, ts, rfl, hf, ha, hb, hb1, hc, hc1, hl1, hps, hwl, hls, hhl, hhs, hal, nal, dr, ok, k⟩ := h
    have nm := bd.nm
    have hB := T.blt
    have d1 := ok_tug (P := P) (w := w) (base := base) T
    have d2 := ok_Plan (P := P) (w := w) (base := base) T
    have d3 := ok_isTT (P := P) (w := w) (base := base) T
    have d3k : MethK P w K mg base CX0 4 (Is1 c.p) "is_timetable" ["thing"] (spIsTT c) := T.Plan_is_timetable.okK (fun C h => by rw [h]; exact T.cls_p) kb_Plan_is_timetable rfl (fk_isTT T)
    have d4 := ok_ldue (P := P) (w := w) (base := base) T
    have d5 := ok_others (P := P) (w := w) (base := base) T
    obtain ⟨LB, iL, iP, iW, iQ, iH, iK, iT, hLB⟩ : ∃ LB : LL, At LB l (.lst (ps.map T2.v)) ∧ Alls T2.o LB ps ∧ At LB wl (.lst (ls.map T3w.v)) ∧ Alls T3w.o LB ls ∧ At LB hl (.lst (hs.map T2.v)) ∧ Alls T2.o LB hs ∧ At LB al (.lst (ts.map V.int)) ∧ ∀ q ∈ LB, H q.1 = some q.2 ∧ q.1 ≠ f := by
      have no : ∀ {b' : Addr} {o : HO}, H b' = some o → o ≠ feedO a b e → b' ≠ f := fun {b' o} e' z hb => by
        subst hb
        rw [hf] at e'
        exact z (Option.some.inj e').symm
      refine ⟨(l, .lst (ps.map T2.v)) :: (wl, .lst (ls.map T3w.v)) :: (hl, .lst (hs.map T2.v)) :: (al, .lst (ts.map V.int)) :: (ps.map T2.o ++ (ls.map T3w.o ++ hs.map T2.o)), .here, fun x hx => .there (.there (.there (.there (Alls.self.app_l x hx)))), .there .here, fun x hx => .there (.there (.there (.there (.app_r (Alls.self.app_l x hx))))), .there (.there .here), fun x hx => .there (.there (.there (.there (.app_r (.app_r (Alls.self x hx)))))), .there (.there (.there .here)), fun q hq => ?_⟩
      rcases List.mem_cons.mp hq with rfl | hq
      · refine ⟨hl1, no hl1 fun e => ?_⟩
        cases ps with
        | nil => cases e
        | cons p ps => cases e
      rcases List.mem_cons.mp hq with rfl | hq
      · refine ⟨hwl, no hwl fun e => ?_⟩
        cases ls with
        | nil => cases e
        | cons p ps => cases e
      rcases List.mem_cons.mp hq with rfl | hq
      · refine ⟨hhl, no hhl fun e => ?_⟩
        cases hs with
        | nil => cases e
        | cons p ps => cases e
      rcases List.mem_cons.mp hq with rfl | hq
      · exact ⟨hal, nal⟩
      rcases List.mem_append.mp hq with hq | hq
      · obtain ⟨x, hx, rfl⟩ := List.mem_map.mp hq
        exact ⟨hps x hx, no (hps x hx) (fun e => nomatch e)⟩
      rcases List.mem_append.mp hq with hq | hq
      · obtain ⟨x, hx, rfl⟩ := List.mem_map.mp hq
        exact ⟨hls x hx, no (hls x hx) (fun e => nomatch e)⟩
      · obtain ⟨x, hx, rfl⟩ := List.mem_map.mp hq
        exact ⟨hhs x hx, no (hhs x hx) (fun e => nomatch e)⟩
    have z0 := Hs.anyM (a := f) (o := feedO a b e) (L := LB) (H := H) hf (fun q hq => (hLB q hq).1) (fun q hq => (hLB q hq).2)
    with_reducible refine wb_go (L := _) (σ := [some (.ref f), some (.ref l), some (.ref wl), some (.ref hl), some (.ref al), none, none, none, none, none, none, none, none]) ?e z0 ?_
    (case e => rfl)
    fail "x"
    rename_i y dy ny ndy
    refine rs_PlanI .here (.inl ny) (.there (.there (.there iL))) iP.there.there.there (.there (.there (.there iW))) iQ.there.there.there (.there (.there (.there iH))) iK.there.there.there ok ?_
    intro l' w' f' v' lvs pok npl
    refine ⟨rfl, ?_⟩
    fail "1"
    obtain ⟨LP, eLP⟩ : ∃ LP : LL, LP = (y, planO c.p dy l' w' f' v') :: (planN c l' w' f' v' ps ls hs lvs ++ LB) := ⟨_, rfl⟩
    have pl : PlanH c (At LP) y ps ls hs lvs := ⟨pok, dy, l', w', f', v', fun q hq => by
      rw [eLP]
      rcases List.mem_cons.mp hq with rfl | hq
      · exact .here
      rcases List.mem_append.mp hq with hq | hq
      · exact .of_mem (List.mem_cons_of_mem _ (List.mem_append_left _ hq))
      rcases List.mem_append.mp hq with hq | hq
      · obtain ⟨x, hx, rfl⟩ := List.mem_map.mp hq
        exact .of_mem (List.mem_cons_of_mem _ (List.mem_append_right _ (iP x hx).mem))
      · obtain ⟨x, hx, rfl⟩ := List.mem_map.mp hq
        exact .of_mem (List.mem_cons_of_mem _ (List.mem_append_right _ (iQ x hx).mem))⟩
    have lfP : ∀ {a : Addr} {o : HO}, At LB a o → At LP a o := fun h => .of_mem (by rw [eLP]; exact List.mem_cons_of_mem _ (List.mem_append_right _ h.mem))
    refine kb_subP (L' := (f, feedO a b e) :: LP) (L'' := planN c l' w' f' v' ps ls hs lvs ++ ((y, planO c.p dy l' w' f' v') :: (f, feedO a b e) :: LB)) ?_ ?_ ?_
    · rw [eLP]
      exact (List.perm_middle.trans ((List.Perm.cons _ List.perm_middle).trans (.swap _ _ _))).symm
    · exact .append (.refl _) (.cons₂ _ (.cons _ (.refl _)))
    obtain ⟨n0, n1, hlen, hbig, hdep⟩ := dr
    refine kb_seq (Body.setKl bd ns (own := [("turn", 11)]) (by fail "mem") rfl rfl rfl rfl ⟨rfl, by decide +kernel, by decide +kernel, by decide +kernel, by decide +kernel⟩ (by intro _; rfl) ?_)
    refine Body.kl bd ns [("turn", 11)] ["turn", "pairs", "urn"] ["turn"] (by decide +kernel) (by decide +kernel) (by decide +kernel) (ki_range1 (bd.gl rfl) (bd.no (hB _ (by fail "mem"))) rfl ?_)
    fail "x"
    refine ⟨by decide, by decide, fun J wk G nG => ⟨_, _, _, fun i L => ∃ (a' c' : Int) (rs : List (Addr × List Int)), ((G, HO.lst (rs.map fun r => .ref r.1)) :: (f, feedO a' b c') :: (rs.map (fun r => (r.1, HO.lst (r.2.map V.int))) ++ LP)).Perm L ∧ 0 ≤ a' ∧ e ≤ c' ∧ c' ≤ e + 100 * (i : Int) ∧ rs.length = i ∧ (∀ r ∈ rs, H r.1 = none ∧ r.2.length ≤ 40 ∧ ∀ u ∈ r.2, 0 ≤ u ∧ u ≤ 1000000000000000000000000000000000000000000000000000000000000), wk, ⟨a, e, [], .refl _, ha, by omega, by omega, rfl, by simp⟩, fun _ _ _ _ => trivial, ?_, ?_⟩⟩
    · rintro i x L L' hi ⟨a', c', rs, pm, ha', hc', hc2', hrs, hrp⟩ ⟨rfl, rfl⟩ B bB nB
      rw [show wipe [some (V.ref f), some (V.ref l), some (V.ref wl), some (V.ref hl), some (V.ref al), some (V.ref y), none, none, none, none, none, none, none] _ = [some (V.ref f), some (V.ref l), some (V.ref wl), some (V.ref hl), some (V.ref al), some (V.ref y), none, none, none, none, none, none, none] from rfl]
      have nm1 := bB.nm
      fail "x"
      intro B2 bB2
      refine kf_nil ?_
      rw [if_pos rfl]
      intro B3 bB3
      have nm3 := bB3.nm
      have ns3 : Ns B3 _ [] := ⟨bB3.nm.eq, ns.nd, fun x hx => nomatch hx⟩
      refine ke_subP pm (.refl _) ?_
      refine Body.lc bB3 ns3 [("pair", 12)] ["pair", "urn"] ["pair"] ⟨rfl, by decide +kernel, by decide +kernel, by decide +kernel, by decide +kernel⟩ (by decide +kernel) (by decide +kernel) (by decide +kernel) (by intro _; rfl) ?_
      refine ki_list ?_
      fail "x"
      obtain ⟨LR, eLR⟩ : ∃ LR : LL, LR = rs.map (fun r => (r.1, HO.lst (r.2.map V.int))) ++ LP := ⟨_, rfl⟩
      have rL : At LR l (.lst (ps.map T2.v)) := by rw [eLR]; exact .app_r (lfP iL)
      have rP : Alls T2.o LR ps := by rw [eLR]; exact fun x hx => .app_r (lfP (iP x hx))
      rw [← eLR]
      have hi3 : i < 3 := hi
      refine ⟨l, _, rfl, .there (.there rL), fun J2 wk2 D2 nD2 => ⟨_, _, _, fun j L => ∃ (a2 c2 : Int) (us : List Int), L = (D2, HO.lst (us.map V.int)) :: (G, HO.lst (rs.map fun r => .ref r.1)) :: (f, feedO a2 b c2) :: LR ∧ 0 ≤ a2 ∧ c' ≤ c2 ∧ c2 ≤ c' + j ∧ us.length = j ∧ ∀ u ∈ us, 0 ≤ u ∧ u ≤ 1000000000000000000000000000000000000000000000000000000000000, wk2, ⟨a', c', [], rfl, ha', by omega, by omega, rfl, by simp⟩, ?_, ?_, ?_⟩⟩
      · rintro j L - ⟨a2, c2, us, rfl, -⟩
        exact .there (.there (.there rL))
      · rintro j x L L' hj ⟨a2, c2, us, rfl, ha2, hc3, hc4, hus, hub⟩ ⟨rfl, hy⟩ B4 bB4 nB4
        have hj2 : j < ps.length := by rw [List.length_map] at hj; exact hj
        rw [List.getElem?_map] at hy
        obtain ⟨p, hp, rfl⟩ := Option.map_eq_some_iff.mp hy
        have hp2 := hbig p (List.mem_of_getElem? hp)
        have hp3 : p.x ≤ 100000000000000000000000000000000000000000000000000 := hp2.2
        have ip : At LR p.a (.tup [.int p.x, .int p.y]) := rP p (List.mem_of_getElem? hp)
        rw [show wipe [some (V.ref f), some (V.ref l), some (V.ref wl), some (V.ref hl), some (V.ref al), some (V.ref y), none, none, none, none, none, some (V.int i), none] _ = [some (V.ref f), some (V.ref l), some (V.ref wl), some (V.ref hl), some (V.ref al), some (V.ref y), none, none, none, none, none, some (V.int i), none] from rfl]
        have nm4 := bB4.nm
        fail "x"
        intro B5 bB5
        refine kf_nil ?_
        rw [if_pos rfl]
        intro B6 bB6
        have nm6 := bB6.nm
        fail "x"
        refine ix_tp (p := p.a) (xs := [.int p.x, .int p.y]) (by fail "at") (v := .int p.x) (i := 0) (by rfl) ?_
        fail "x"
        rename_i r1 a3 c3 hr1 hr2 ha3 hc5 hc6
        refine ⟨_, _, .here, by rw [List.length_map]; exact Nat.lt_of_le_of_lt (show us.length ≤ 1000 by omega) (szl1000 rfl), _, .refl _, a3, c3, us ++ [r1], by rw [List.map_append]; rfl, ha3, by omega, by omega, by rw [List.length_append, hus]; rfl, fun u hu => ?_⟩
        rcases List.mem_append.mp hu with hu | hu
        · exact hub u hu
        · rw [List.mem_singleton.mp hu]; omega
      · rintro L ⟨a2, c2, us, rfl, ha2, hc3, hc4, hus, hub⟩
        rw [List.length_map] at hc4 hus
        refine ⟨_, _, .there .here, by rw [List.length_map]; exact Nat.lt_of_le_of_lt (show rs.length ≤ 1000 by omega) (szl1000 rfl), _, .refl _, a2, c2, rs ++ [(D2, us)], ?_, ha2, by omega, by omega, by rw [List.length_append, hrs]; rfl, fun r hr => ?_⟩
        · rw [eLR, List.map_append, List.map_append, List.append_assoc]
          exact (((List.Perm.swap _ _ _).trans (.cons _ (.swap _ _ _))).trans (.cons _ (.cons _ List.perm_middle.symm))).symm.symm.symm
        · rcases List.mem_append.mp hr with hr | hr
          · exact hrp r hr
          · rw [List.mem_singleton.mp hr]; exact ⟨nD2, by show us.length ≤ 40; omega, hub⟩
    · rintro L ⟨a', c', rs, pm, ha', hc', hc2', hrs, hrp⟩
      fail "1"
      obtain ⟨RS, eRS⟩ : ∃ RS : List V, RS = rs.map fun r => .ref r.1 := ⟨_, rfl⟩
      obtain ⟨LQ, eLQ⟩ : ∃ LQ : LL, LQ = rs.map (fun r => (r.1, HO.lst (r.2.map V.int))) ++ LP := ⟨_, rfl⟩
      rw [← eRS, ← eLQ] at pm
      refine kb_subP pm (.refl _) ?_
      have lfQ : ∀ {a : Addr} {o : HO}, At LP a o → At LQ a o := fun h => by rw [eLQ]; exact .app_r h
      refine kb_seq (ks_for bd.own bd.calm (by intro _; rfl) ?_)
      refine ki_list ?_
      have hc4 : c' ≤ e + 300 := by
        have : c' ≤ e + 100 * ((3 : Int).toNat : Int) := hc2'
        simpa using this
      fail "x"
      rename_i q0 nq0
      refine rs_others (.there (.there .here)) (.inr rfl) ha' hb hb1 (by omega) (by omega) (.there (.there (.there (lfQ (lfP iL))))) (fun x hx => .there (.there (.there (lfQ (lfP (iP x hx)))))) (.there (.there (.there (lfQ (lfP iT))))) nal ⟨n0, n1, hlen, hbig, hdep⟩ ?_
      intro R VS N a2 c2 nR nN ha2 hc5 hc6 hVS hit
      refine ro_cat (xs := [.ref al]) (.there (.app_r .here)) .here (Nat.le_trans (show [V.ref al].length + VS.length ≤ 1000 by rw [List.length_singleton]; omega) (sz1000 rfl)) ?_
      intro q1 nq1
      have lRS : RS.length = 3 := by rw [eRS, List.length_map, hrs]; rfl
      fail "x"
      refine ro_cat (ys := RS) .here (.there (.there (.app_r (.there .here)))) (Nat.le_trans (show ([V.ref al] ++ VS).length + RS.length ≤ 1000 by rw [List.length_append, List.length_singleton, lRS]; omega) (sz1000 rfl)) ?_
      intro q2 nq2
      obtain ⟨IS, eIS⟩ : ∃ IS : List V, IS = [.ref al] ++ VS ++ RS := ⟨_, rfl⟩
      obtain ⟨LW, eLW⟩ : ∃ LW : LL, LW = (q2, .lst IS) :: (q1, .lst ([.ref al] ++ VS)) :: ((R, HO.lst VS) :: N ++ (q0, HO.lst [V.ref al]) :: (G, HO.lst RS) :: (f, feedO a2 b c2) :: LQ) := ⟨_, rfl⟩
      rw [← eIS, ← eLW]
      have lfW : ∀ {a : Addr} {o : HO}, At LQ a o → At LW a o := fun h => by rw [eLW]; exact .there (.there (.there (.app_r (.there (.there (.there h))))))
      have wF : At LW f (feedO a2 b c2) := by rw [eLW]; exact .there (.there (.there (.app_r (.there (.there .here)))))
      have wT : At LW al (.lst (ts.map V.int)) := lfW (lfQ (lfP iT))
      have wY : At LW y (planO c.p dy l' w' f' v') := lfW (lfQ (by rw [eLP]; exact .here))
      have wPl : PlanH c (At LW) y ps ls hs lvs := pl.imp fun _ _ h => lfW (lfQ h)
      have wI : At LW q2 (.lst IS) := by rw [eLW]; exact .here
      have g0 : ∀ u ∈ ts, 0 ≤ u ∧ u ≤ 1000000000000000000000000000000000000000000000000000000000000 := fun u hu => by
        obtain ⟨k2, hk2⟩ := List.getElem?_of_mem hu
        obtain ⟨hk3, -⟩ := List.getElem?_eq_some_iff.mp hk2
        obtain ⟨p2, hp2⟩ : ∃ p, ps[k2]? = some p := ⟨_, List.getElem?_eq_getElem (by omega)⟩
        have h1 := hdep k2 p2 u hp2 hk2
        have h3 : p2.x ≤ 100000000000000000000000000000000000000000000000000 := (hbig p2 (List.mem_of_getElem? hp2)).2
        omega
      have hits : ∀ v ∈ IS, ItD (At LW) 1000000 10 v := fun v hv => by
        rw [eIS] at hv
        rcases List.mem_append.mp hv with hv | hv
        · rcases List.mem_append.mp hv with hv | hv
          · rw [List.mem_singleton.mp hv]
            exact mk_list wT (by rw [List.length_map]; omega) (ints_el g0)
          · refine (hit v hv).imp fun a o h => ?_
            rcases List.mem_append.mp h.mem with h | h
            · rw [eLW]; exact .there (.there (.there (.app_l (.of_mem h))))
            · cases List.mem_singleton.mp h; exact wT
        · rw [eRS] at hv
          obtain ⟨r, hr, rfl⟩ := List.mem_map.mp hv
          obtain ⟨-, hr2, hr3⟩ := hrp r hr
          refine mk_list (xs := r.2.map V.int) (lfW (by rw [eLQ]; exact .app_l (.of_mem (List.mem_map.mpr ⟨r, hr, rfl⟩)))) (by rw [List.length_map]; omega) (ints_el hr3)
      refine ⟨q2, IS, rfl, wI, fun J2 wk2 => ⟨_, _, _, fun i σ L => ∃ (o1 o2 o3 o4 : Option V), σ = [some (.ref f), some (.ref l), some (.ref wl), some (.ref hl), some (.ref al), some (.ref y), some (.ref G), o1, o2, o3, o4, none, none] ∧ LW = L, wk2, ⟨_, _, _, _, rfl, rfl⟩, ?_, ?_, ?_⟩⟩
      · rintro i σ L - ⟨o1, o2, o3, o4, rfl, rfl⟩
        exact wI
      · rintro i x σ L L' hi ⟨o1, o2, o3, o4, rfl, rfl⟩ ⟨eL', hy⟩
        rw [eL']
        obtain ⟨it, d, dq, sm⟩ := hits x (List.mem_of_getElem? hy)
        have sm2 : Sm sizeLine 60 d := sm.up (by decide +kernel) (by decide)
        fail "x"
        refine rc_reprQ bd.room bd.gd (fun H z => dq.onH z) sm2 ?_
        fail "x"
        refine rs_ldue (LW := LW) (lfW (lfQ (lfP iL))) (fun x hx => lfW (lfQ (lfP (iP x hx)))) (lfW (lfQ (lfP iW))) (fun x hx => lfW (lfQ (lfP (iQ x hx)))) (lfW (lfQ (lfP iH))) (fun x hx => lfW (lfQ (lfP (iK x hx)))) ok it (fun _ _ h => h) ?_
        intro r hr
        fail "x"
        refine rs_isTT (LW := LW) wPl it (fun _ _ h => h) ?_
        intro r2 hr2
        obtain rfl : r2 = r := by rw [Bool.eq_iff_iff, hr, hr2]
        fail "x"
        refine rs_isTT (LW := LW) wPl it (fun _ _ h => h) ?_
        intro r3 hr3
        obtain rfl : r3 = r2 := by rw [Bool.eq_iff_iff, hr2, hr3]
        fail "x"
        refine rc_reprQ bd.room bd.gd (fun H z => Dq.onH (dq.imp (fun _ _ h => .there (.there h)) _ _) z) sm2 ?_
        fail "x"
        exact kb_nil (.refl _) (kb_nil (.cons _ (.cons _ (.refl _))) ⟨_, _, _, _, rfl, rfl⟩)
      · rintro σ L ⟨o1, o2, o3, o4, rfl, rfl⟩
        fail "x"
        refine fun H' z => (k a2 c2 ha2 (by omega) (by omega)).e0 z wF)
end

local macro_rules | `(tactic| fail "nx") => `(tactic| ((with_reducible show rs _ _ _ _ _ _ _); (with_reducible apply rs_tug); (fail "spot"); (fail "mark"); (omega); (omega); (omega); (omega); (omega); (omega); (omega); (intro _ _ _ _ _ _ _ _)))
local macro_rules | `(tactic| fail "asg") => `(tactic| ((with_reducible refine kb_seq ?_); (with_reducible refine' Body.asgT ?bd ?hs ?hw ?h1 ?h); (case bd => (with_reducible assumption)); (case hs => (intro env he; cases env; cases he; rfl)); (case hw => (intro env he; cases env; cases he; rfl)); (case h1 => rfl)))
local macro_rules | `(tactic| fail "lvr") => `(tactic| ((with_reducible show ∃ _, _); (with_reducible apply precv); (fail "at"); (decide +kernel); (decide +kernel); (decide +kernel); (decide +kernel)))
local macro_rules | `(tactic| fail "x") => `(tactic| repeat first | fail "lvr" | fail "1" | fail "nx")
section
variable {P : Program} {w : World} {K : PySem.W.Frag} {mg : Str → Option Value} {base : Heap} {c : Cp}
theorem rs_scene {H0 : Hp} {M : Addr → Prop} {L : LL} {Q : V → LL → Prop} {E : XK} {f ch : Addr} {a b c most links : Int} {is : List Int} {bad : Bool} {g : HO → LL} (s : Spot L f (feedO a b c) g) (cc : H0 f = none ∨ M f) (ic : At L ch (.lst (is.map V.int))) (ne : f ≠ ch) (ha : 0 ≤ a) (hb : 0 ≤ b) (hb1 : b ≤ 1000000000000000000000000000000000000000000) (hc : 0 ≤ c) (hc1 : c ≤ 10000000000000000000000000000) (ck : ChainOk topU is) (hl : is.length ≤ 4) (m1 : 1 ≤ most) (m2 : most ≤ 100) (k1 : 0 ≤ links) (k2 : links ≤ 200)
    (h : ∀ R pp pl ph pa a' c' ps ls hs ts, H0 R = none → 0 ≤ a' → c ≤ c' → c' ≤ c + 10000 → PairsOk is ps ts → 1 ≤ ps.length → (ps.length : Int) ≤ most → (ls.length : Int) ≤ links → (∀ l ∈ ls, LookOk bad ps ts l) → HeldOk bad ps.length ps ts hs → Q (.ref R) (sceneL R pp pl ph pa ps ls hs ts ++ g (feedO a' b c'))) : rs H0 M spScene E [.ref f, .ref ch, .int most, .int links, .bl bad] L Q :=
  fun H z => ⟨f, ch, a, b, c, most, links, is, bad, rfl, z.at_ _ s.mem, z.get ic, ne, ha, hb, hb1, hc, hc1, ck, hl, m1, m2, k1, k2, fun R pp pl ph pa a' c' ps ls hs ts nR h1 h2 h3 h4 h5 h6 h7 h8 h9 => z.cc s cc (h R pp pl ph pa a' c' ps ls hs ts (z.fresh nR) h1 h2 h3 h4 h5 h6 h7 h8 h9)⟩
theorem rs_rightP {H0 : Hp} {M : Addr → Prop} {L : LL} {Q : V → LL → Prop} {E : XK} {f l wl hl al : Addr} {a b c : Int} {ps : List T2} {ls : List T3w} {hs : List T2} {ts : List Int} {g : HO → LL} (s : Spot L f (feedO a b c) g) (cc : H0 f = none ∨ M f) (ha : 0 ≤ a) (hb : 0 ≤ b) (hb1 : b ≤ 1000000000000000000000000000000000000000000) (hc : 0 ≤ c) (hc1 : c ≤ 10000000000000000000000000000) (il : At L l (.lst (ps.map T2.v))) (ap : Alls T2.o L ps) (iw : At L wl (.lst (ls.map T3w.v))) (aw : Alls T3w.o L ls) (ih : At L hl (.lst (hs.map T2.v))) (ah : Alls T2.o L hs) (ia : At L al (.lst (ts.map V.int))) (ne : al ≠ f) (dr : Drawn ps ts) (ok : PlanIn ps ls hs)
    (h : ∀ (a' c' : Int), 0 ≤ a' → c ≤ c' → c' ≤ c + 100000 → Q (.bl true) (g (feedO a' b c'))) : rs H0 M spRightP E [.ref f, .ref l, .ref wl, .ref hl, .ref al] L Q :=
  fun H z => ⟨f, l, wl, hl, al, a, b, c, ps, ls, hs, ts, rfl, z.at_ _ s.mem, ha, hb, hb1, hc, hc1, z.get il, ap.get z, z.get iw, aw.get z, z.get ih, ah.get z, z.get ia, ne, dr, ok, fun a' c' h1 h2 h3 => z.c0 s cc (h a' c' h1 h2 h3)⟩
theorem rs_hs {H0 : Hp} {M : Addr → Prop} {sp : Sp} {E : XK} {vs : List V} {L : LL} {Q : V → LL → Prop} (h : ∀ H, Hs H0 M L H → rs H0 M sp E vs L Q) : rs H0 M sp E vs L Q := fun H z => h H z H z
theorem kg_perm {X : Cx} {H0 : Hp} {M : Addr → Prop} {tg : Expr} {v : V} {σ : L2.St} {L L' : LL} {P : L2.St → LL → Prop} (pm : L'.Perm L) (h : kg X H0 M tg v σ L' P) : kg X H0 M tg v σ L P := fun H z pins s u I r => h H (z.perm pm) pins s u I r
theorem kb_hs {X : Cx} {H0 : Hp} {M : Addr → Prop} {L : LL} {σ : L2.St} {ss : List Stmt} {nx : L2.St → LL → Prop} {rt : V → LL → Prop} {bk ct : L2.St → LL → Prop} (h : ∀ H, Hs H0 M L H → kb X H0 M ss nx rt bk ct σ L) : kb X H0 M ss nx rt bk ct σ L := fun H z => h H z H z
noncomputable def ttB (L : LL) (ps : List T2) (ls : List T3w) (hs : List T2) (x : V) : Bool := @decide (TTv (At L) ps ls hs x) (Classical.propDecidable _)
theorem ttB_iff {L : LL} {ps : List T2} {ls : List T3w} {hs : List T2} {x : V} : ttB L ps ls hs x = true ↔ TTv (At L) ps ls hs x := by unfold ttB; exact @decide_eq_true_iff _ (Classical.propDecidable _)
theorem ttB_eq {L : LL} {ps : List T2} {ls : List T3w} {hs : List T2} {x : V} {b : Bool} (h : TTv (At L) ps ls hs x ↔ b = true) : ttB L ps ls hs x = b := by rw [Bool.eq_iff_iff, ttB_iff, h]
theorem ttv_list {H0 H : Hp} {M : Addr → Prop} {L : LL} {ps : List T2} {ls : List T3w} {hs : List T2} {b : Addr} {is : List Int} (z : Hs H0 M L H) (i : At L b (.lst (is.map V.int))) : TTv (At L) ps ls hs (.ref b) ↔ IsTT ps ls hs is := by
  constructor
  · rintro ⟨b2, js, e1, e2, tt⟩
    cases e1
    have h1 := z.get i
    rw [z.get e2] at h1
    cases List.map_inj_right (fun _ _ h => V.int.inj h) |>.mp (HO.lst.inj (Option.some.inj h1))
    exact tt
  · exact fun tt => ⟨b, is, rfl, i, tt⟩
theorem tt_1 {t1 t2 t3 t4 : Addr} : IsTT [⟨t1, 4, 1⟩, ⟨t2, 2, 0⟩] [⟨t3, 0, 1, 2⟩] [⟨t4, 0, 3⟩] [3, 0] := by
  refine ⟨rfl, fun k p t hp ht => ?_, fun h hh => ?_, fun u hu => ?_⟩
  · rcases k with _ | _ | k
    · cases hp; cases ht; exact ⟨by decide, by show (3 : Int) < 4; decide⟩
    · cases hp; cases ht; exact ⟨by decide, by show (0 : Int) < 2; decide⟩
    · cases ht
  · rw [List.mem_singleton.mp hh]; rfl
  · rw [List.mem_singleton.mp hu]
    intro p q t u h1 h2 h3 h4
    cases h1; cases h2; cases h3; cases h4
    show ((3 : Int) + 1 + 2 - 0) % (if (2 : Int) < 4 then 2 else 4) = 0
    decide
theorem tt_2 {t1 t2 t3 t4 : Addr} : ¬ IsTT [⟨t1, 4, 1⟩, ⟨t2, 2, 0⟩] [⟨t3, 0, 1, 2⟩] [⟨t4, 0, 3⟩] [3, 1] := fun h => by
  have := h.wish _ (List.mem_singleton.mpr rfl) _ _ _ _ rfl rfl rfl rfl
  have : ((3 : Int) + 1 + 2 - 1) % (if (2 : Int) < 4 then 2 else 4) = 0 := this
  exact absurd this (by decide)
theorem tt_3 {t1 t2 t3 t4 : Addr} : ¬ IsTT [⟨t1, 4, 1⟩, ⟨t2, 2, 0⟩] [⟨t3, 0, 1, 2⟩] [⟨t4, 0, 3⟩] [1, 0] := fun h => by
  have := h.fix _ (List.mem_singleton.mpr rfl)
  have : some (1 : Int) = some 3 := this
  exact absurd this (by decide)
theorem tt_4 {t1 t2 t3 t4 : Addr} : ¬ IsTT [⟨t1, 4, 1⟩, ⟨t2, 2, 0⟩] [⟨t3, 0, 1, 2⟩] [⟨t4, 0, 3⟩] [3, 2] := fun h => by
  have := h.rng 1 _ _ rfl rfl
  have : (0 : Int) ≤ 2 ∧ (2 : Int) < 2 := this
  omega
theorem fk_law (T : Tx P K mg c) : ∀ f fd, Fun K "law" "law" s_law f fd → Fk P w K mg base CX0 12 f fd ["script"] (spLaw K) :=
  fun f fd F => fk_body F sc_law lo_law pl_law (by (conv => lhs; whnf)) (fun vs H Q E h => by obtain ⟨a, ns, rfl, _⟩ := h; rfl) (fun X bd ns H vs Q E h => by
    obtain ⟨a, nsc, rfl, sq, hl, k⟩ := h
    have nm := bd.nm
    have hB := T.blt
    rw [← bd.K] at sq
    have d1 := ok_urn (P := P) (w := w) (base := base) T
    have d2 := ok_tug (P := P) (w := w) (base := base) T
    have d3 := ok_chainU (P := P) (w := w) (base := base) T
    have d4 := ok_scene (P := P) (w := w) (base := base) T
    have d5 := ok_rightP (P := P) (w := w) (base := base) T
    have d6 := ok_Plan (P := P) (w := w) (base := base) T
    have d7 := ok_isTT (P := P) (w := w) (base := base) T
    with_reducible refine wb_go (M := fun _ => False) (L := []) (σ := [some (.ref a), none, none, none, none, none, none, none, none, none, none, none, none, none]) ?e .s0 ?_
    (case e => rfl)
    refine kb_seq (ks_for bd.own bd.calm (by intro _; rfl) ?_)
    refine ki_range1 (bd.gl rfl) (bd.no (hB _ (by fail "mem"))) rfl ?_
    fail "x"
    refine rc_lenR sq id ?_
    fail "x"
    refine ⟨by split <;> (try split) <;> omega, by split <;> (try split) <;> omega, fun J wk => ⟨_, _, _, fun i σ L => ∃ (o1 o2 o3 o4 o5 o6 o7 o8 o9 oA : Option V), [] = L ∧ σ = [some (.ref a), o1, o2, o3, o4, o5, o6, o7, o8, o9, oA, none, none, none], wk, ⟨_, _, _, _, _, _, _, _, _, _, rfl, rfl⟩, fun _ _ _ _ _ => trivial, ?_, ?_⟩⟩
    · rintro i x σ L L' hi ⟨o1, o2, o3, o4, o5, o6, o7, o8, o9, oA, rfl, rfl⟩ ⟨rfl, rfl⟩
      have hi4 : (i : Int) ≤ 900 := by
        have h4 : i < 900 := Nat.lt_of_lt_of_le hi (by split <;> (try split) <;> omega)
        omega
      fail "x"
      rw [bd.K] at sq
      refine rs_urn sq id (by omega) (by omega) (fun p ua ub np ha hb hb1 => ?_)
      fail "1"
      refine kb_seq (ks_for bd.own bd.calm (by intro _; rfl) ?_)
      refine ki_list ?_
      fail "x"
      rename_i t1 nt1 t2 nt2 t3 nt3 t0 nt0
      obtain ⟨LT, eLT⟩ : ∃ LT : LL, LT = [(t0, .lst [.ref t1, .ref t2, .ref t3]), (t3, .tup [.int 3, .int 2]), (t2, .tup [.int 5, .int 8]), (t1, .tup [.int 40, .int 80])] := ⟨_, rfl⟩
      refine ⟨t0, _, rfl, .here, fun J2 wk2 => ⟨_, _, _, fun i2 σ L => ∃ (a2 c2 : Int) (p3 p4 p5 p6 p7 p8 p9 pA : Option V), L.Perm ((p, feedO a2 ub c2) :: LT) ∧ 0 ≤ a2 ∧ 0 ≤ c2 ∧ c2 ≤ 200000 * (i2 : Int) ∧ σ = [some (.ref a), some (.int i), some (.ref p), p3, p4, p5, p6, p7, p8, p9, pA, none, none, none], wk2, ?_, ?_, ?_, ?_⟩⟩
      · exact ⟨ua, 0, _, _, _, _, _, _, _, _, by rw [eLT]; exact List.perm_append_singleton _ [_, _, _, _], ha, by omega, by omega, rfl⟩
      · rintro i2 σ L - ⟨a2, c2, p3, p4, p5, p6, p7, p8, p9, pA, pm, -⟩
        exact .of_mem (pm.mem_iff.mpr (by rw [eLT]; simp))
      · rintro i2 x σ L L' hi2 ⟨a2, c2, p3, p4, p5, p6, p7, p8, p9, pA, pm, ha2, hc0, hc2, rfl⟩ ⟨rfl, hy⟩
        have hi3 : i2 < 3 := hi2
        obtain ⟨t, most, links, rfl, it, m1, m2, k1, k2⟩ : ∃ (t : Addr) (most links : Int), x = .ref t ∧ At LT t (.tup [.int most, .int links]) ∧ 1 ≤ most ∧ most ≤ 40 ∧ 0 ≤ links ∧ links ≤ 80 := by
          rw [eLT]
          rcases i2 with _ | _ | _ | i2
          · cases hy; exact ⟨t1, 40, 80, rfl, .there (.there (.there .here)), by decide, by decide, by decide, by decide⟩
          · cases hy; exact ⟨t2, 5, 8, rfl, .there (.there .here), by decide, by decide, by decide, by decide⟩
          · cases hy; exact ⟨t3, 3, 2, rfl, .there .here, by decide, by decide, by decide, by decide⟩
          · omega
        refine kg_perm pm.symm ?_
        fail "x"
        refine rs_chainU .here (.inl np) ha2 hb hb1 hc0 (by omega) (fun ch a3 c3 is nch h3 hc3 hc4 ck hl4 => ?_)
        fail "x"
        rename_i r4 a4 c4 hr41 hr42 h4 hc5 hc6
        refine rs_hs fun H' z' => ?_
        have nepc : p ≠ ch := fun e => by
          have nd := z'.nd
          rw [List.map_cons, List.map_cons, List.pairwise_cons] at nd
          rcases nd.1 p (by simp) with h | h
          · exact h e.symm
          · exact h.1 nch
        refine rs_scene (.there .here) (.inl np) .here nepc h4 hb hb1 (by omega) (by omega) ck hl4 m1 (by omega) k1 (by omega) ?_
        intro R pp pl ph pa a5 c5 ps ls hs ts nR h5 hc7 hc8 pk np1 np2 nl2 lk hk
        have hmem : ∀ p ∈ ps, 1 ≤ p.x ∧ p.x ≤ topU := fun p hp => ck.rng _ (pk.mem p hp)
        have dr : Drawn ps ts := ⟨np1, by omega, pk.len, hmem, pk.dep⟩
        have okP : PlanIn ps ls hs := ⟨np1, by omega, by omega, by have := hk.len; omega, fun p hp => ⟨(hmem p hp).1, (pk.rid p hp).1⟩, by
          rw [List.pairwise_map]
          exact List.pairwise_of_forall_mem_list (fun p hp q hq => ck.fit (.inr (pk.mem p hp)) (.inr (pk.mem q hq))), fun l hl => ⟨(lk l hl).i0, (lk l hl).i1, (lk l hl).j0, (lk l hl).j1, (lk l hl).w0⟩, hk.dis, fun h hh => ⟨(hk.ix h hh).1, (hk.ix h hh).2, hk.dep h hh⟩⟩
        obtain ⟨LS, eLS⟩ : ∃ LS : LL, LS = sceneL R pp pl ph pa ps ls hs ts := ⟨_, rfl⟩
        have sR : At LS R (.lst [.ref pp, .ref pl, .ref ph, .ref pa]) := by rw [eLS]; exact .here
        have sH : At LS ph (.lst (hs.map T2.v)) := by rw [eLS]; exact .there .here
        have sL : At LS pl (.lst (ls.map T3w.v)) := by rw [eLS]; exact .there (.there .here)
        have sA : At LS pa (.lst (ts.map V.int)) := by rw [eLS]; exact .there (.there (.there .here))
        have sP : At LS pp (.lst (ps.map T2.v)) := by rw [eLS]; exact .there (.there (.there (.there .here)))
        have aP : Alls T2.o LS ps := by rw [eLS]; exact fun x hx => .there (.there (.there (.there (.there (Alls.self.app_l x hx)))))
        have aL : Alls T3w.o LS ls := by rw [eLS]; exact fun x hx => .there (.there (.there (.there (.there (.app_r (Alls.self.app_l x hx))))))
        have aH : Alls T2.o LS hs := by rw [eLS]; exact fun x hx => .there (.there (.there (.there (.there (.app_r (.app_r (Alls.self x hx)))))))
        rw [← eLS]
        clear eLS
        obtain ⟨LX, eLX⟩ : ∃ LX : LL, LX = LS ++ (ch, HO.lst (is.map V.int)) :: (p, feedO a5 ub c5) :: LT := ⟨_, rfl⟩
        have xR : At LX R (.lst [.ref pp, .ref pl, .ref ph, .ref pa]) := by rw [eLX]; exact .app_l sR
        rw [← eLX]
        fail "x"
        rw [eLX]
        refine rs_hs fun H2 z2 => ?_
        have nepa : pa ≠ p := fun e => by
          have nd := z2.nd
          rw [List.map_append, List.pairwise_append] at nd
          rcases nd.2.2 pa (List.mem_map.mpr ⟨_, sA.mem, rfl⟩) p (by simp) with h | h
          · exact h e
          · exact h.1 (by rw [e]; exact np)
        refine rs_rightP (Spot.app_r2 (.there .here)) (.inl np) h5 hb hb1 (by omega) (by omega) (.app_l sP) (fun x hx => .app_l (aP x hx)) (.app_l sL) (fun x hx => .app_l (aL x hx)) (.app_l sH) (fun x hx => .app_l (aH x hx)) (.app_l sA) nepa dr okP ?_
        intro a6 c6 h6 hc9 hc10
        fail "x"
        exact kb_nil (.refl _) (kb_nil ((List.Sublist.cons _ (.refl _)).trans (List.sublist_append_right LS _)) ⟨a6, c6, _, _, _, _, _, _, _, _, .refl _, h6, by omega, by omega, rfl⟩)
      · rintro σ L ⟨a2, c2, p3, p4, p5, p6, p7, p8, p9, pA, pm, -, -, -, rfl⟩
        exact kb_nil (List.nil_sublist _) ⟨_, _, _, _, _, _, _, _, _, _, rfl, rfl⟩
    · rintro σ L ⟨o1, o2, o3, o4, o5, o6, o7, o8, o9, oA, rfl, rfl⟩
      fail "x"
      rename_i t1 nt1 t2 nt2 ql nql t3 nt3 qw nqw t4 nt4 qh nqh y dy ny ndy
      have okP : PlanIn [⟨t1, 4, 1⟩, ⟨t2, 2, 0⟩] [⟨t3, 0, 1, 2⟩] [⟨t4, 0, 3⟩] := by
        refine ⟨by simp, by simp, by simp, by simp, by simp, ?_, by simp, by simp, ?_⟩
        · simp only [List.map_cons, List.map_nil, List.pairwise_cons, List.mem_singleton, List.not_mem_nil, false_imp_iff, implies_true, forall_eq, and_true, List.Pairwise.nil]
          exact .inr ⟨2, rfl⟩
        · intro h hh
          rw [List.mem_singleton.mp hh]
          refine ⟨by show (0 : Int) ≤ 0; decide, by show (0 : Int) < 2; decide, fun p hp => ?_⟩
          cases hp
          exact ⟨by show (0 : Int) ≤ 3; decide, by show (3 : Int) < 4; decide⟩
      refine rs_PlanI (ps := [⟨t1, 4, 1⟩, ⟨t2, 2, 0⟩]) (ls := [⟨t3, 0, 1, 2⟩]) (hs := [⟨t4, 0, 3⟩]) .here (.inl ny) (show At _ ql (.lst [.ref t1, .ref t2]) from by fail "at") (fun x hx => ?_) (show At _ qw (.lst [.ref t3]) from by fail "at") (fun x hx => ?_) (show At _ qh (.lst [.ref t4]) from by fail "at") (fun x hx => ?_) okP ?_
      · simp only [List.mem_cons, List.not_mem_nil, or_false] at hx
        rcases hx with rfl | rfl
        · exact .of_mem (by simp)
        · exact .of_mem (by simp)
      · rw [List.mem_singleton.mp hx]; exact .of_mem (by simp)
      · rw [List.mem_singleton.mp hx]; exact .of_mem (by simp)
      intro l' w' f' v' lvs pok npl
      refine ⟨rfl, ?_⟩
      fail "1"
      obtain ⟨LP, eLP⟩ : ∃ LP : LL, LP = planN c l' w' f' v' [⟨t1, 4, 1⟩, ⟨t2, 2, 0⟩] [⟨t3, 0, 1, 2⟩] [⟨t4, 0, 3⟩] lvs ++ [(y, planO c.p dy l' w' f' v'), (dy, .own y), (qh, .lst [.ref t4]), (t4, .tup [.int 0, .int 3]), (qw, .lst [.ref t3]), (t3, .tup [.int 0, .int 1, .int 2]), (ql, .lst [.ref t1, .ref t2]), (t2, .tup [.int 2, .int 0]), (t1, .tup [.int 4, .int 1])] := ⟨_, rfl⟩
      have pl : PlanH c (At LP) y [⟨t1, 4, 1⟩, ⟨t2, 2, 0⟩] [⟨t3, 0, 1, 2⟩] [⟨t4, 0, 3⟩] lvs := ⟨pok, dy, l', w', f', v', fun q hq => by
        rw [eLP]
        rcases List.mem_cons.mp hq with rfl | hq
        · exact .of_mem (List.mem_append_right _ (by simp))
        rcases List.mem_append.mp hq with hq | hq
        · exact .of_mem (List.mem_append_left _ hq)
        · refine .of_mem (List.mem_append_right _ ?_)
          simp only [List.map_cons, List.map_nil, List.cons_append, List.nil_append, List.mem_cons, List.not_mem_nil, or_false] at hq
          rcases hq with rfl | rfl | rfl <;> simp⟩
      have iY : At LP y (planO c.p dy l' w' f' v') := by rw [eLP]; exact .of_mem (List.mem_append_right _ (by simp))
      refine kb_sub (L' := LP) (by rw [eLP]; exact .refl _) ?_
      refine kb_seq (Body.setKl bd ns (own := [("item", 13)]) (by fail "mem") rfl rfl rfl rfl ⟨rfl, by decide +kernel, by decide +kernel, by decide +kernel, by decide +kernel⟩ (by intro _; rfl) ?_)
      clear eLP
      refine Body.kl bd ns [("item", 13)] ["item", "one"] ["item"] (by decide +kernel) (by decide +kernel) (by decide +kernel) ?_
      refine ki_list ?_
      fail "x"
      rename_i j1 nj1 j2 nj2 j3 nj3 j4 nj4 j5 nj5 j0 nj0
      obtain ⟨LQ, eLQ⟩ : ∃ LQ : LL, LQ = (j0, .lst [.ref j1, .ref j2, .ref j3, .ref j4, .ref j5]) :: (j5, .tup [.int 3, .int 0]) :: (j4, .lst [.int 3, .int 2]) :: (j3, .lst [.int 1, .int 0]) :: (j2, .lst [.int 3, .int 1]) :: (j1, .lst [.int 3, .int 0]) :: LP := ⟨_, rfl⟩
      rw [← eLQ]
      have i0 : At LQ j0 (.lst [.ref j1, .ref j2, .ref j3, .ref j4, .ref j5]) := by rw [eLQ]; exact .here
      have i5 : At LQ j5 (.tup [.int 3, .int 0]) := by rw [eLQ]; exact .there .here
      have i4 : At LQ j4 (.lst [.int 3, .int 2]) := by rw [eLQ]; exact .there (.there .here)
      have i3 : At LQ j3 (.lst [.int 1, .int 0]) := by rw [eLQ]; exact .there (.there (.there .here))
      have i2 : At LQ j2 (.lst [.int 3, .int 1]) := by rw [eLQ]; exact .there (.there (.there (.there .here)))
      have i1 : At LQ j1 (.lst [.int 3, .int 0]) := by rw [eLQ]; exact .there (.there (.there (.there (.there .here))))
      have iYQ : At LQ y (planO c.p dy l' w' f' v') := by rw [eLQ]; exact .there (.there (.there (.there (.there (.there iY)))))
      have plQ : PlanH c (At LQ) y [⟨t1, 4, 1⟩, ⟨t2, 2, 0⟩] [⟨t3, 0, 1, 2⟩] [⟨t4, 0, 3⟩] lvs := pl.imp fun _ _ h => by rw [eLQ]; exact .there (.there (.there (.there (.there (.there h)))))
      clear eLQ
      have itl : ∀ {j : Addr} {a b : Int}, At LQ j (.lst [.int a, .int b]) → It (At LQ) (.ref j) := fun {j a b} h => .ls h (Nat.le_of_ble_eq_true rfl) fun x hx => by
        simp only [List.mem_cons, List.not_mem_nil, or_false] at hx
        rcases hx with rfl | rfl
        · exact ⟨_, .int _⟩
        · exact ⟨_, .int _⟩
      have its : ∀ x ∈ ([.ref j1, .ref j2, .ref j3, .ref j4, .ref j5] : List V), It (At LQ) x := by
        intro x hx
        simp only [List.mem_cons, List.not_mem_nil, or_false] at hx
        rcases hx with rfl | rfl | rfl | rfl | rfl
        · exact itl i1
        · exact itl i2
        · exact itl i3
        · exact itl i4
        · exact .pk (.tup i5) (by decide)
      refine ⟨j0, _, rfl, i0, fun J2 wk2 G nG => ⟨_, _, _, fun i L => (G, HO.lst ((([.ref j1, .ref j2, .ref j3, .ref j4, .ref j5] : List V).take i).map fun x => .bl (ttB LQ [⟨t1, 4, 1⟩, ⟨t2, 2, 0⟩] [⟨t3, 0, 1, 2⟩] [⟨t4, 0, 3⟩] x))) :: LQ = L, wk2, rfl, ?_, ?_, ?_⟩⟩
      · rintro i L - rfl
        exact .there i0
      · rintro i x L L' hi rfl ⟨rfl, hy⟩ B bB nB
        have nm1 := bB.nm
        rw [show wipe [some (V.ref a), o1, o2, o3, o4, o5, o6, o7, o8, o9, oA, some (V.ref y), none, none] _ = [some (V.ref a), o1, o2, o3, o4, o5, o6, o7, o8, o9, oA, some (V.ref y), none, none] from rfl]
        fail "x"
        intro B2 bB2
        refine kf_nil ?_
        rw [if_pos rfl]
        intro B3 bB3
        have nm3 := bB3.nm
        fail "x"
        refine rs_isTT (LW := LQ) plQ (its x (List.mem_of_getElem? hy)) (fun _ _ h => .there h) ?_
        intro r hr
        refine ⟨_, _, .here, by rw [List.length_map]; exact Nat.lt_of_le_of_lt (Nat.le_trans (List.length_take_le' _ _) (show 5 ≤ 1000 by decide)) (szl1000 rfl), _, .refl _, ?_⟩
        show (G, HO.lst (((([.ref j1, .ref j2, .ref j3, .ref j4, .ref j5] : List V).take (i + 1)).map fun x => .bl (ttB LQ [⟨t1, 4, 1⟩, ⟨t2, 2, 0⟩] [⟨t3, 0, 1, 2⟩] [⟨t4, 0, 3⟩] x)))) :: LQ = (G, HO.lst (_ ++ [V.bl r])) :: LQ
        rw [take_snoc hy, List.map_append]
        have e : r = ttB LQ [⟨t1, 4, 1⟩, ⟨t2, 2, 0⟩] [⟨t3, 0, 1, 2⟩] [⟨t4, 0, 3⟩] x := (ttB_eq hr.symm).symm
        rw [e]
        rfl
      · rintro L rfl
        fail "1"
        refine kb_hs fun H' z => ?_
        have z2 := z.sub (List.Sublist.cons _ (.refl LQ))
        have e1 : ttB LQ [⟨t1, 4, 1⟩, ⟨t2, 2, 0⟩] [⟨t3, 0, 1, 2⟩] [⟨t4, 0, 3⟩] (.ref j1) = true := ttB_eq ((ttv_list (is := [3, 0]) z2 i1).trans ⟨fun _ => rfl, fun _ => tt_1⟩)
        have e2 : ttB LQ [⟨t1, 4, 1⟩, ⟨t2, 2, 0⟩] [⟨t3, 0, 1, 2⟩] [⟨t4, 0, 3⟩] (.ref j2) = false := ttB_eq ((ttv_list (is := [3, 1]) z2 i2).trans ⟨fun h => absurd h tt_2, fun h => nomatch h⟩)
        have e3 : ttB LQ [⟨t1, 4, 1⟩, ⟨t2, 2, 0⟩] [⟨t3, 0, 1, 2⟩] [⟨t4, 0, 3⟩] (.ref j3) = false := ttB_eq ((ttv_list (is := [1, 0]) z2 i3).trans ⟨fun h => absurd h tt_3, fun h => nomatch h⟩)
        have e4 : ttB LQ [⟨t1, 4, 1⟩, ⟨t2, 2, 0⟩] [⟨t3, 0, 1, 2⟩] [⟨t4, 0, 3⟩] (.ref j4) = false := ttB_eq ((ttv_list (is := [3, 2]) z2 i4).trans ⟨fun h => absurd h tt_4, fun h => nomatch h⟩)
        have e5 : ttB LQ [⟨t1, 4, 1⟩, ⟨t2, 2, 0⟩] [⟨t3, 0, 1, 2⟩] [⟨t4, 0, 3⟩] (.ref j5) = false := by
          refine ttB_eq ⟨?_, fun h => nomatch h⟩
          rintro ⟨b, is, h1, h2, _⟩
          cases h1
          have h3 := z2.get i5
          rw [z2.get h2] at h3
          cases h3
        clear z z2
        rw [show ((([.ref j1, .ref j2, .ref j3, .ref j4, .ref j5] : List V).take ([.ref j1, .ref j2, .ref j3, .ref j4, .ref j5] : List V).length).map fun x => V.bl (ttB LQ [⟨t1, 4, 1⟩, ⟨t2, 2, 0⟩] [⟨t3, 0, 1, 2⟩] [⟨t4, 0, 3⟩] x)) = [.bl true, .bl false, .bl false, .bl false, .bl false] from by
          show [V.bl (ttB LQ _ _ _ (.ref j1)), .bl (ttB LQ _ _ _ (.ref j2)), .bl (ttB LQ _ _ _ (.ref j3)), .bl (ttB LQ _ _ _ (.ref j4)), .bl (ttB LQ _ _ _ (.ref j5))] = _
          rw [e1, e2, e3, e4, e5]]
        fail "x"
        exact fun H' _ => k H')
end

theorem all_mk {P : Program} {w : World} {K : PySem.W.Frag} {h : Heap} {mg : Str → Option Value} {fa C1 C2 f1 f2 f3 f4 f5 f6 f7 f8 f9 f10 f11 f12 f13 f14 f15 f16 f17 f18 f19 f20 f21 f22 f23 f24 f25 f26 f27 : Addr}
    {od1 an1 od2 an2 od3 an3 od4 an4 od5 an5 od6 an6 od7 an7 od8 an8 od9 an9 od10 an10 od11 an11 od12 an12 od13 an13 od14 an14 od15 an15 od16 an16 od17 an17 od18 an18 od19 an19 od20 an20 od21 an21 od22 an22 od23 an23 od24 an24 od25 an25 od26 an26 od27 an27 : Option Addr} {sl1 sl2 sl3 sl4 sl5 sl6 sl7 sl8 sl9 sl10 sl11 sl12 sl13 sl14 sl15 sl16 sl17 sl18 sl19 sl20 sl21 sl22 sl23 sl24 sl25 sl26 sl27 : Array (Option Value)} {oc1 kV1 dc1 pm1 ct1 cd1 oc2 kV2 dc2 pm2 ct2 cd2 oc3 kV3 dc3 pm3 ct3 cd3 oc4 kV4 dc4 pm4 ct4 cd4 oc5 kV5 dc5 pm5 ct5 cd5 oc6 kV6 dc6 pm6 ct6 cd6 oc7 kV7 dc7 pm7 ct7 cd7 oc8 kV8 dc8 pm8 ct8 cd8 oc9 kV9 dc9 pm9 ct9 cd9 oc10 kV10 dc10 pm10 ct10 cd10 oc11 kV11 dc11 pm11 ct11 cd11 oc12 kV12 dc12 pm12 ct12 cd12 oc13 kV13 dc13 pm13 ct13 cd13 oc14 kV14 dc14 pm14 ct14 cd14 oc15 kV15 dc15 pm15 ct15 cd15 oc16 kV16 dc16 pm16 ct16 cd16 oc17 kV17 dc17 pm17 ct17 cd17 oc18 kV18 dc18 pm18 ct18 cd18 oc19 kV19 dc19 pm19 ct19 cd19 oc20 kV20 dc20 pm20 ct20 cd20 oc21 kV21 dc21 pm21 ct21 cd21 oc22 kV22 dc22 pm22 ct22 cd22 oc23 kV23 dc23 pm23 ct23 cd23 oc24 kV24 dc24 pm24 ct24 cd24 oc25 kV25 dc25 pm25 ct25 cd25 oc26 kV26 dc26 pm26 ct26 cd26 oc27 kV27 dc27 pm27 ct27 cd27 : Value}
    {tmostl tmostw : Tok} (X : K.In h) (G : h.Ns mainGlobals mg) (hfa : mg "law" = some (.ref fa))
    (zC1 : PySem.W.nsIn K mainGlobals "Plan" = some (some (.ref C1)))
    (zC2 : PySem.W.nsIn K mainGlobals "Level" = some (some (.ref C2)))
    (a1 : PySem.W.nsIn K mainGlobals "is_integer" = some (some (.ref f1)))
    (l1 : K.lookup f1 = some ⟨oc1, od1, .func (PySem.W.fnOf "is_integer" "is_integer" (defArgs s_is_integer) (defBody s_is_integer) (defScope s_is_integer) .none kV1 dc1 pm1 an1 cd1 ct1), sl1⟩)
    (c1 : PySem.W.codeIn K cd1 "is_integer" = true)
    (k1 : PySem.W.keepIn K (.ref f1) = true)
    (a2 : PySem.W.nsIn K mainGlobals "all_fit" = some (some (.ref f2)))
    (l2 : K.lookup f2 = some ⟨oc2, od2, .func (PySem.W.fnOf "all_fit" "all_fit" (defArgs s_all_fit) (defBody s_all_fit) (defScope s_all_fit) .none kV2 dc2 pm2 an2 cd2 ct2), sl2⟩)
    (c2 : PySem.W.codeIn K cd2 "all_fit" = true)
    (k2 : PySem.W.keepIn K (.ref f2) = true)
    (a3 : PySem.W.nsIn K mainGlobals "is_below" = some (some (.ref f3)))
    (l3 : K.lookup f3 = some ⟨oc3, od3, .func (PySem.W.fnOf "is_below" "is_below" (defArgs s_is_below) (defBody s_is_below) (defScope s_is_below) .none kV3 dc3 pm3 an3 cd3 ct3), sl3⟩)
    (c3 : PySem.W.codeIn K cd3 "is_below" = true)
    (k3 : PySem.W.keepIn K (.ref f3) = true)
    (a4 : PySem.W.nsIn K mainGlobals "is_row" = some (some (.ref f4)))
    (l4 : K.lookup f4 = some ⟨oc4, od4, .func (PySem.W.fnOf "is_row" "is_row" (defArgs s_is_row) (defBody s_is_row) (defScope s_is_row) .none kV4 dc4 pm4 an4 cd4 ct4), sl4⟩)
    (c4 : PySem.W.codeIn K cd4 "is_row" = true)
    (k4 : PySem.W.keepIn K (.ref f4) = true)
    (a5 : PySem.W.nsIn K mainGlobals "is_planned" = some (some (.ref f5)))
    (l5 : K.lookup f5 = some ⟨oc5, od5, .func (PySem.W.fnOf "is_planned" "is_planned" (defArgs s_is_planned) (defBody s_is_planned) (defScope s_is_planned) .none kV5 dc5 pm5 an5 cd5 ct5), sl5⟩)
    (c5 : PySem.W.codeIn K cd5 "is_planned" = true)
    (k5 : PySem.W.keepIn K (.ref f5) = true)
    (a6 : PySem.W.nsIn K mainGlobals "is_wish" = some (some (.ref f6)))
    (l6 : K.lookup f6 = some ⟨oc6, od6, .func (PySem.W.fnOf "is_wish" "is_wish" (defArgs s_is_wish) (defBody s_is_wish) (defScope s_is_wish) .none kV6 dc6 pm6 an6 cd6 ct6), sl6⟩)
    (c6 : PySem.W.codeIn K cd6 "is_wish" = true)
    (k6 : PySem.W.keepIn K (.ref f6) = true)
    (a7 : PySem.W.nsIn K mainGlobals "is_fixing" = some (some (.ref f7)))
    (l7 : K.lookup f7 = some ⟨oc7, od7, .func (PySem.W.fnOf "is_fixing" "is_fixing" (defArgs s_is_fixing) (defBody s_is_fixing) (defScope s_is_fixing) .none kV7 dc7 pm7 an7 cd7 ct7), sl7⟩)
    (c7 : PySem.W.codeIn K cd7 "is_fixing" = true)
    (k7 : PySem.W.keepIn K (.ref f7) = true)
    (a8 : PySem.W.nsIn K mainGlobals "check_lines" = some (some (.ref f8)))
    (l8 : K.lookup f8 = some ⟨oc8, od8, .func (PySem.W.fnOf "check_lines" "check_lines" (defArgs s_check_lines) (defBody s_check_lines) (defScope s_check_lines) .none kV8 dc8 pm8 an8 cd8 ct8), sl8⟩)
    (c8 : PySem.W.codeIn K cd8 "check_lines" = true)
    (k8 : PySem.W.keepIn K (.ref f8) = true)
    (a9 : PySem.W.nsIn K mainGlobals "check_wishes" = some (some (.ref f9)))
    (l9 : K.lookup f9 = some ⟨oc9, od9, .func (PySem.W.fnOf "check_wishes" "check_wishes" (defArgs s_check_wishes) (defBody s_check_wishes) (defScope s_check_wishes) .none kV9 dc9 pm9 an9 cd9 ct9), sl9⟩)
    (c9 : PySem.W.codeIn K cd9 "check_wishes" = true)
    (k9 : PySem.W.keepIn K (.ref f9) = true)
    (a10 : PySem.W.nsIn K mainGlobals "check_fixed" = some (some (.ref f10)))
    (l10 : K.lookup f10 = some ⟨oc10, od10, .func (PySem.W.fnOf "check_fixed" "check_fixed" (defArgs s_check_fixed) (defBody s_check_fixed) (defScope s_check_fixed) .none kV10 dc10 pm10 an10 cd10 ct10), sl10⟩)
    (c10 : PySem.W.codeIn K cd10 "check_fixed" = true)
    (k10 : PySem.W.keepIn K (.ref f10) = true)
    (a11 : PySem.W.nsIn K mainGlobals "shift_of" = some (some (.ref f11)))
    (l11 : K.lookup f11 = some ⟨oc11, od11, .func (PySem.W.fnOf "shift_of" "shift_of" (defArgs s_shift_of) (defBody s_shift_of) (defScope s_shift_of) .none kV11 dc11 pm11 an11 cd11 ct11), sl11⟩)
    (c11 : PySem.W.codeIn K cd11 "shift_of" = true)
    (k11 : PySem.W.keepIn K (.ref f11) = true)
    (a12 : PySem.W.nsIn K mainGlobals "steps_of" = some (some (.ref f12)))
    (l12 : K.lookup f12 = some ⟨oc12, od12, .func (PySem.W.fnOf "steps_of" "steps_of" (defArgs s_steps_of) (defBody s_steps_of) (defScope s_steps_of) .none kV12 dc12 pm12 an12 cd12 ct12), sl12⟩)
    (c12 : PySem.W.codeIn K cd12 "steps_of" = true)
    (k12 : PySem.W.keepIn K (.ref f12) = true)
    (a13 : PySem.W.findIn K (.ref C2) "__init__" = some (some (.ref f13)))
    (i13 : PySem.W.isFn K (.ref f13) = true)
    (l13 : K.lookup f13 = some ⟨oc13, od13, .func (PySem.W.fnOf "__init__" "Level.__init__" (defArgs s_Level_init) (defBody s_Level_init) (defScope s_Level_init) .none kV13 dc13 pm13 an13 cd13 ct13), sl13⟩)
    (c13 : PySem.W.codeIn K cd13 "Level.__init__" = true)
    (k13 : PySem.W.keepIn K (.ref f13) = true)
    (a14 : PySem.W.findIn K (.ref C2) "_grow" = some (some (.ref f14)))
    (i14 : PySem.W.isFn K (.ref f14) = true)
    (l14 : K.lookup f14 = some ⟨oc14, od14, .func (PySem.W.fnOf "_grow" "Level._grow" (defArgs s_Level_grow) (defBody s_Level_grow) (defScope s_Level_grow) .none kV14 dc14 pm14 an14 cd14 ct14), sl14⟩)
    (c14 : PySem.W.codeIn K cd14 "Level._grow" = true)
    (k14 : PySem.W.keepIn K (.ref f14) = true)
    (a15 : PySem.W.findIn K (.ref C2) "_place" = some (some (.ref f15)))
    (i15 : PySem.W.isFn K (.ref f15) = true)
    (l15 : K.lookup f15 = some ⟨oc15, od15, .func (PySem.W.fnOf "_place" "Level._place" (defArgs s_Level_place) (defBody s_Level_place) (defScope s_Level_place) .none kV15 dc15 pm15 an15 cd15 ct15), sl15⟩)
    (c15 : PySem.W.codeIn K cd15 "Level._place" = true)
    (k15 : PySem.W.keepIn K (.ref f15) = true)
    (a16 : PySem.W.findIn K (.ref C1) "__init__" = some (some (.ref f16)))
    (i16 : PySem.W.isFn K (.ref f16) = true)
    (l16 : K.lookup f16 = some ⟨oc16, od16, .func (PySem.W.fnOf "__init__" "Plan.__init__" (defArgs s_Plan_init) (defBody s_Plan_init) (defScope s_Plan_init) .none kV16 dc16 pm16 an16 cd16 ct16), sl16⟩)
    (c16 : PySem.W.codeIn K cd16 "Plan.__init__" = true)
    (k16 : PySem.W.keepIn K (.ref f16) = true)
    (a17 : PySem.W.findIn K (.ref C1) "is_timetable" = some (some (.ref f17)))
    (i17 : PySem.W.isFn K (.ref f17) = true)
    (l17 : K.lookup f17 = some ⟨oc17, od17, .func (PySem.W.fnOf "is_timetable" "Plan.is_timetable" (defArgs s_Plan_is_timetable) (defBody s_Plan_is_timetable) (defScope s_Plan_is_timetable) .none kV17 dc17 pm17 an17 cd17 ct17), sl17⟩)
    (c17 : PySem.W.codeIn K cd17 "Plan.is_timetable" = true)
    (k17 : PySem.W.keepIn K (.ref f17) = true)
    (a18 : PySem.W.findIn K (.ref C1) "_holds" = some (some (.ref f18)))
    (i18 : PySem.W.isFn K (.ref f18) = true)
    (l18 : K.lookup f18 = some ⟨oc18, od18, .func (PySem.W.fnOf "_holds" "Plan._holds" (defArgs s_Plan_holds) (defBody s_Plan_holds) (defScope s_Plan_holds) .none kV18 dc18 pm18 an18 cd18 ct18), sl18⟩)
    (c18 : PySem.W.codeIn K cd18 "Plan._holds" = true)
    (k18 : PySem.W.keepIn K (.ref f18) = true)
    (a19 : PySem.W.nsIn K mainGlobals "_law_urn" = some (some (.ref f19)))
    (l19 : K.lookup f19 = some ⟨oc19, od19, .func (PySem.W.fnOf "_law_urn" "_law_urn" (defArgs s_urn) (defBody s_urn) (defScope s_urn) .none kV19 dc19 pm19 an19 cd19 ct19), sl19⟩)
    (c19 : PySem.W.codeIn K cd19 "_law_urn" = true)
    (k19 : PySem.W.keepIn K (.ref f19) = true)
    (a20 : PySem.W.nsIn K mainGlobals "_law_tug" = some (some (.ref f20)))
    (l20 : K.lookup f20 = some ⟨oc20, od20, .func (PySem.W.fnOf "_law_tug" "_law_tug" (defArgs s_tug) (defBody s_tug) (defScope s_tug) .none kV20 dc20 pm20 an20 cd20 ct20), sl20⟩)
    (c20 : PySem.W.codeIn K cd20 "_law_tug" = true)
    (k20 : PySem.W.keepIn K (.ref f20) = true)
    (a21 : PySem.W.nsIn K mainGlobals "_law_chain" = some (some (.ref f21)))
    (l21 : K.lookup f21 = some ⟨oc21, od21, .func (PySem.W.fnOf "_law_chain" "_law_chain" (defArgs s_chain) (defBody s_chain) (defScope s_chain) .none kV21 dc21 pm21 an21 cd21 ct21), sl21⟩)
    (c21 : PySem.W.codeIn K cd21 "_law_chain" = true)
    (k21 : PySem.W.keepIn K (.ref f21) = true)
    (a22 : PySem.W.nsIn K mainGlobals "_law_scene" = some (some (.ref f22)))
    (l22 : K.lookup f22 = some ⟨oc22, od22, .func (PySem.W.fnOf "_law_scene" "_law_scene" (defArgs s_scene) (defBody s_scene) (defScope s_scene) .none kV22 dc22 pm22 an22 cd22 ct22), sl22⟩)
    (c22 : PySem.W.codeIn K cd22 "_law_scene" = true)
    (k22 : PySem.W.keepIn K (.ref f22) = true)
    (a23 : PySem.W.nsIn K mainGlobals "_law_holds" = some (some (.ref f23)))
    (l23 : K.lookup f23 = some ⟨oc23, od23, .func (PySem.W.fnOf "_law_holds" "_law_holds" (defArgs s_holds) (defBody s_holds) (defScope s_holds) .none kV23 dc23 pm23 an23 cd23 ct23), sl23⟩)
    (c23 : PySem.W.codeIn K cd23 "_law_holds" = true)
    (k23 : PySem.W.keepIn K (.ref f23) = true)
    (a24 : PySem.W.nsIn K mainGlobals "_law_due" = some (some (.ref f24)))
    (l24 : K.lookup f24 = some ⟨oc24, od24, .func (PySem.W.fnOf "_law_due" "_law_due" (defArgs s_due) (defBody s_due) (defScope s_due) .none kV24 dc24 pm24 an24 cd24 ct24), sl24⟩)
    (c24 : PySem.W.codeIn K cd24 "_law_due" = true)
    (k24 : PySem.W.keepIn K (.ref f24) = true)
    (a25 : PySem.W.nsIn K mainGlobals "_law_others" = some (some (.ref f25)))
    (l25 : K.lookup f25 = some ⟨oc25, od25, .func (PySem.W.fnOf "_law_others" "_law_others" (defArgs s_others) (defBody s_others) (defScope s_others) .none kV25 dc25 pm25 an25 cd25 ct25), sl25⟩)
    (c25 : PySem.W.codeIn K cd25 "_law_others" = true)
    (k25 : PySem.W.keepIn K (.ref f25) = true)
    (a26 : PySem.W.nsIn K mainGlobals "_law_right" = some (some (.ref f26)))
    (l26 : K.lookup f26 = some ⟨oc26, od26, .func (PySem.W.fnOf "_law_right" "_law_right" (defArgs s_right) (defBody s_right) (defScope s_right) .none kV26 dc26 pm26 an26 cd26 ct26), sl26⟩)
    (c26 : PySem.W.codeIn K cd26 "_law_right" = true)
    (k26 : PySem.W.keepIn K (.ref f26) = true)
    (a27 : PySem.W.nsIn K mainGlobals "law" = some (some (.ref f27)))
    (l27 : K.lookup f27 = some ⟨oc27, od27, .func (PySem.W.fnOf "law" "law" (defArgs s_law) (defBody s_law) (defScope s_law) .none kV27 dc27 pm27 an27 cd27 ct27), sl27⟩)
    (c27 : PySem.W.codeIn K cd27 "law" = true)
    (k27 : PySem.W.keepIn K (.ref f27) = true)
    (pgC1 : PySem.W.plainGet K C1 Str.empty = true)
    (hdC1 : PySem.W.hasDictIn K C1 = true)
    (poC1 : PySem.W.plainOver K C1 = true)
    (saC1 : PySem.W.findIn K (.ref C1) "__setattr__" = some (some (.builtin "object.__setattr__")))
    (mkC1 : PySem.W.makesIn K C1 = true)
    (kcC1 : PySem.W.keepIn K (.ref C1) = true)
    (naC1_lines : PySem.W.findIn K (.ref C1) "_lines" = some none)
    (naC1_wishes : PySem.W.findIn K (.ref C1) "_wishes" = some none)
    (naC1_fixed : PySem.W.findIn K (.ref C1) "_fixed" = some none)
    (naC1_levels : PySem.W.findIn K (.ref C1) "_levels" = some none)
    (pgC2 : PySem.W.plainGet K C2 Str.empty = true)
    (hdC2 : PySem.W.hasDictIn K C2 = true)
    (poC2 : PySem.W.plainOver K C2 = true)
    (saC2 : PySem.W.findIn K (.ref C2) "__setattr__" = some (some (.builtin "object.__setattr__")))
    (mkC2 : PySem.W.makesIn K C2 = true)
    (kcC2 : PySem.W.keepIn K (.ref C2) = true)
    (naC2modulus : PySem.W.findIn K (.ref C2) "modulus" = some none)
    (naC2roots : PySem.W.findIn K (.ref C2) "roots" = some none)
    (naC2offsets : PySem.W.findIn K (.ref C2) "offsets" = some none)
    (naC2ways : PySem.W.findIn K (.ref C2) "ways" = some none)
    (vmostl : PySem.W.nsIn K mainGlobals "MOST_LINES" = some (some (.int 40 tmostl)))
    (vmostw : PySem.W.nsIn K mainGlobals "MOST_WISHES" = some (some (.int 80 tmostw)))
    (b0 : PySem.W.nsIn K mainGlobals "isinstance" = some none)
    (b1 : PySem.W.nsIn K mainGlobals "len" = some none)
    (b2 : PySem.W.nsIn K mainGlobals "max" = some none)
    (b3 : PySem.W.nsIn K mainGlobals "min" = some none)
    (b4 : PySem.W.nsIn K mainGlobals "abs" = some none)
    (b5 : PySem.W.nsIn K mainGlobals "repr" = some none)
    (b6 : PySem.W.nsIn K mainGlobals "sum" = some none)
    (b7 : PySem.W.nsIn K mainGlobals "all" = some none)
    (b8 : PySem.W.nsIn K mainGlobals "any" = some none)
    (b9 : PySem.W.nsIn K mainGlobals "sorted" = some none)
    (b10 : PySem.W.nsIn K mainGlobals "int" = some none)
    (b11 : PySem.W.nsIn K mainGlobals "bool" = some none)
    (b12 : PySem.W.nsIn K mainGlobals "str" = some none)
    (b13 : PySem.W.nsIn K mainGlobals "list" = some none)
    (b14 : PySem.W.nsIn K mainGlobals "tuple" = some none)
    (b15 : PySem.W.nsIn K mainGlobals "range" = some none)
    (b16 : PySem.W.nsIn K mainGlobals "enumerate" = some none)
    (b17 : PySem.W.nsIn K mainGlobals "zip" = some none)
    (b18 : PySem.W.nsIn K mainGlobals "super" = some none)
    (b19 : PySem.W.nsIn K mainGlobals "set" = some none)
    (b20 : PySem.W.nsIn K mainGlobals "divmod" = some none)
    (b21 : PySem.W.nsIn K mainGlobals "next" = some none)
    (b22 : PySem.W.nsIn K mainGlobals "type" = some none)
    (b23 : PySem.W.nsIn K mainGlobals "dict" = some none)
    (b24 : PySem.W.nsIn K mainGlobals "ValueError" = some none)
    : ∃ fd : FuncData, (∀ (s : Shared) (v : Value), BindsTo s fd ⟨[v], []⟩ [("script", v)]) ∧ ∀ base : Heap, K.In base → base.Ns mainGlobals mg → Fk P w K mg base CX0 12 fa fd ["script"] (spLaw K) := by
  have e := hfa.symm.trans (PySem.W.mg_of X G a27)
  cases e
  have T : Tx P K mg ⟨C1, C2⟩ := {
    is_integer := ⟨⟨_, _, fun_mk (st := s_is_integer) l1 c1 k1, PySem.W.mg_of X G a1⟩⟩
    all_fit := ⟨⟨_, _, fun_mk (st := s_all_fit) l2 c2 k2, PySem.W.mg_of X G a2⟩⟩
    is_below := ⟨⟨_, _, fun_mk (st := s_is_below) l3 c3 k3, PySem.W.mg_of X G a3⟩⟩
    is_row := ⟨⟨_, _, fun_mk (st := s_is_row) l4 c4 k4, PySem.W.mg_of X G a4⟩⟩
    is_planned := ⟨⟨_, _, fun_mk (st := s_is_planned) l5 c5 k5, PySem.W.mg_of X G a5⟩⟩
    is_wish := ⟨⟨_, _, fun_mk (st := s_is_wish) l6 c6 k6, PySem.W.mg_of X G a6⟩⟩
    is_fixing := ⟨⟨_, _, fun_mk (st := s_is_fixing) l7 c7 k7, PySem.W.mg_of X G a7⟩⟩
    check_lines := ⟨⟨_, _, fun_mk (st := s_check_lines) l8 c8 k8, PySem.W.mg_of X G a8⟩⟩
    check_wishes := ⟨⟨_, _, fun_mk (st := s_check_wishes) l9 c9 k9, PySem.W.mg_of X G a9⟩⟩
    check_fixed := ⟨⟨_, _, fun_mk (st := s_check_fixed) l10 c10 k10, PySem.W.mg_of X G a10⟩⟩
    shift_of := ⟨⟨_, _, fun_mk (st := s_shift_of) l11 c11 k11, PySem.W.mg_of X G a11⟩⟩
    steps_of := ⟨⟨_, _, fun_mk (st := s_steps_of) l12 c12 k12, PySem.W.mg_of X G a12⟩⟩
    Level_init := ⟨⟨f13, _, fun_mk (st := s_Level_init) l13 c13 k13, PySem.W.mg_of X G zC2, ⟨mkC2, a13, i13, kcC2⟩⟩⟩
    Level_grow := ⟨⟨f14, _, fun_mk (st := s_Level_grow) l14 c14 k14, fun C hC => by (rcases hC with rfl); exact ⟨a14, i14, k14⟩⟩⟩
    Level_place := ⟨⟨f15, _, fun_mk (st := s_Level_place) l15 c15 k15, fun C hC => by (rcases hC with rfl); exact ⟨a15, i15, k15⟩⟩⟩
    Plan_init := ⟨⟨f16, _, fun_mk (st := s_Plan_init) l16 c16 k16, PySem.W.mg_of X G zC1, ⟨mkC1, a16, i16, kcC1⟩⟩⟩
    Plan_is_timetable := ⟨⟨f17, _, fun_mk (st := s_Plan_is_timetable) l17 c17 k17, fun C hC => by (rcases hC with rfl); exact ⟨a17, i17, k17⟩⟩⟩
    Plan_holds := ⟨⟨f18, _, fun_mk (st := s_Plan_holds) l18 c18 k18, fun C hC => by (rcases hC with rfl); exact ⟨a18, i18, k18⟩⟩⟩
    urn := ⟨⟨_, _, fun_mk (st := s_urn) l19 c19 k19, PySem.W.mg_of X G a19⟩⟩
    tug := ⟨⟨_, _, fun_mk (st := s_tug) l20 c20 k20, PySem.W.mg_of X G a20⟩⟩
    chain := ⟨⟨_, _, fun_mk (st := s_chain) l21 c21 k21, PySem.W.mg_of X G a21⟩⟩
    scene := ⟨⟨_, _, fun_mk (st := s_scene) l22 c22 k22, PySem.W.mg_of X G a22⟩⟩
    holds := ⟨⟨_, _, fun_mk (st := s_holds) l23 c23 k23, PySem.W.mg_of X G a23⟩⟩
    due := ⟨⟨_, _, fun_mk (st := s_due) l24 c24 k24, PySem.W.mg_of X G a24⟩⟩
    others := ⟨⟨_, _, fun_mk (st := s_others) l25 c25 k25, PySem.W.mg_of X G a25⟩⟩
    right := ⟨⟨_, _, fun_mk (st := s_right) l26 c26 k26, PySem.W.mg_of X G a26⟩⟩
    law := ⟨⟨_, _, fun_mk (st := s_law) l27 c27 k27, PySem.W.mg_of X G a27⟩⟩
    cls_p := ⟨pgC1, hdC1, poC1, saC1⟩
    g_p := PySem.W.mg_of X G zC1
    na_p_lines := naC1_lines
    na_p_wishes := naC1_wishes
    na_p_fixed := naC1_fixed
    na_p_levels := naC1_levels
    cls_l := ⟨pgC2, hdC2, poC2, saC2⟩
    g_l := PySem.W.mg_of X G zC2
    na_lmodulus := naC2modulus
    na_lroots := naC2roots
    na_loffsets := naC2offsets
    na_lways := naC2ways
    mostl := ⟨_, PySem.W.mg_of X G vmostl⟩
    mostw := ⟨_, PySem.W.mg_of X G vmostw⟩
    blt := fun x hx => by
      simp only [List.mem_cons, List.not_mem_nil, or_false] at hx
      rcases hx with rfl | rfl | rfl | rfl | rfl | rfl | rfl | rfl | rfl | rfl | rfl | rfl | rfl | rfl | rfl | rfl | rfl | rfl | rfl | rfl | rfl | rfl | rfl | rfl | rfl
      · exact PySem.W.mg_none_of X G b0
      · exact PySem.W.mg_none_of X G b1
      · exact PySem.W.mg_none_of X G b2
      · exact PySem.W.mg_none_of X G b3
      · exact PySem.W.mg_none_of X G b4
      · exact PySem.W.mg_none_of X G b5
      · exact PySem.W.mg_none_of X G b6
      · exact PySem.W.mg_none_of X G b7
      · exact PySem.W.mg_none_of X G b8
      · exact PySem.W.mg_none_of X G b9
      · exact PySem.W.mg_none_of X G b10
      · exact PySem.W.mg_none_of X G b11
      · exact PySem.W.mg_none_of X G b12
      · exact PySem.W.mg_none_of X G b13
      · exact PySem.W.mg_none_of X G b14
      · exact PySem.W.mg_none_of X G b15
      · exact PySem.W.mg_none_of X G b16
      · exact PySem.W.mg_none_of X G b17
      · exact PySem.W.mg_none_of X G b18
      · exact PySem.W.mg_none_of X G b19
      · exact PySem.W.mg_none_of X G b20
      · exact PySem.W.mg_none_of X G b21
      · exact PySem.W.mg_none_of X G b22
      · exact PySem.W.mg_none_of X G b23
      · exact PySem.W.mg_none_of X G b24 }
  have FL := fun_mk (st := s_law) l27 c27 k27
  exact ⟨_, fun s v => .of_eq rfl, fun base _ _ => fk_law T _ _ FL⟩
theorem walk {l : PySem.W.OpenLaw} {q : Program} {loose : List Str} {XP : (Str → Option Value) → Heap → Prop} {YP : World → Heap → Prop} {d : DefRec} {K : Params → PySem.W.Frag} (hn : l.most = some 63) (hdf : d.params.defaults = [])
    (hY : ∀ (w : World) (h : Heap), YP w h → (K w.params).In h)
    (F : ∀ (w : World) (mg : Str → Option Value) (fa : Addr) (h : Heap), (K w.params).In h → h.Ns mainGlobals mg → mg d.name = some (.ref fa) →
      ∃ fd : FuncData, (∀ (s : Shared) (u : Value), BindsTo s fd ⟨[u], []⟩ [("script", u)]) ∧ ∀ base : Heap, (K w.params).In base → base.Ns mainGlobals mg → Fk l.prog w (K w.params) mg base CX0 12 fa fd ["script"] (spLaw (K w.params))) :
    PySem.W.WalkO q loose XP YP l.row.toRowW d [] (fun f vs => PySem.call f vs) :=
  Xi.law_walk (n := 63) (k := 12) (x := "script") (CX := fun _ => CX0) (sp := fun w => spLaw (K w.params)) hn (by decide) hdf ⟨rfl, by decide, by decide⟩ hY F (fun _ _ a ns hl hS => ⟨a, ns, rfl, hS, hl, fun _ => rfl⟩) fun _ _ _ _ _ z => z

end Toy
open PySem PySem.W PyProof.Rows
set_option maxRecDepth 100000 in
set_option maxHeartbeats 0 in
theorem PySem.Challenge.cw_onwardlines_k15_timetables_judged_holds : PySem.Challenge.rw_onwardlines_k15_timetables_judged.Holds := by
  w_on; o_law; k_head; (case hw => w_witness2)
  k_fill
  refine Toy.walk (l := PySem.Challenge.rw_onwardlines_k15_timetables_judged) rfl rfl (fun w h Y => PySem.W.kIn_of Y) ?F
  case F =>
    intro w mg fa h KX G hmg
    refine' Toy.all_mk (P := PySem.Challenge.rw_onwardlines_k15_timetables_judged.prog) KX G hmg ?zC1 ?zC2 ?a1 ?l1 ?c1 ?k1 ?a2 ?l2 ?c2 ?k2 ?a3 ?l3 ?c3 ?k3 ?a4 ?l4 ?c4 ?k4 ?a5 ?l5 ?c5 ?k5 ?a6 ?l6 ?c6 ?k6 ?a7 ?l7 ?c7 ?k7 ?a8 ?l8 ?c8 ?k8 ?a9 ?l9 ?c9 ?k9 ?a10 ?l10 ?c10 ?k10 ?a11 ?l11 ?c11 ?k11 ?a12 ?l12 ?c12 ?k12 ?a13 ?i13 ?l13 ?c13 ?k13 ?a14 ?i14 ?l14 ?c14 ?k14 ?a15 ?i15 ?l15 ?c15 ?k15 ?a16 ?i16 ?l16 ?c16 ?k16 ?a17 ?i17 ?l17 ?c17 ?k17 ?a18 ?i18 ?l18 ?c18 ?k18 ?a19 ?l19 ?c19 ?k19 ?a20 ?l20 ?c20 ?k20 ?a21 ?l21 ?c21 ?k21 ?a22 ?l22 ?c22 ?k22 ?a23 ?l23 ?c23 ?k23 ?a24 ?l24 ?c24 ?k24 ?a25 ?l25 ?c25 ?k25 ?a26 ?l26 ?c26 ?k26 ?a27 ?l27 ?c27 ?k27 ?pgC1 ?hdC1 ?poC1 ?saC1 ?mkC1 ?kcC1 ?naC1_lines ?naC1_wishes ?naC1_fixed ?naC1_levels ?pgC2 ?hdC2 ?poC2 ?saC2 ?mkC2 ?kcC2 ?naC2modulus ?naC2roots ?naC2offsets ?naC2ways ?vmostl ?vmostw ?b0 ?b1 ?b2 ?b3 ?b4 ?b5 ?b6 ?b7 ?b8 ?b9 ?b10 ?b11 ?b12 ?b13 ?b14 ?b15 ?b16 ?b17 ?b18 ?b19 ?b20 ?b21 ?b22 ?b23 ?b24
    (case zC1 => k_is)
    (case zC2 => k_is)
    (case a1 => k_is)
    (case l1 => k_is)
    (case c1 => k_is)
    (case k1 => k_is)
    (case a2 => k_is)
    (case l2 => k_is)
    (case c2 => k_is)
    (case k2 => k_is)
    (case a3 => k_is)
    (case l3 => k_is)
    (case c3 => k_is)
    (case k3 => k_is)
    (case a4 => k_is)
    (case l4 => k_is)
    (case c4 => k_is)
    (case k4 => k_is)
    (case a5 => k_is)
    (case l5 => k_is)
    (case c5 => k_is)
    (case k5 => k_is)
    (case a6 => k_is)
    (case l6 => k_is)
    (case c6 => k_is)
    (case k6 => k_is)
    (case a7 => k_is)
    (case l7 => k_is)
    (case c7 => k_is)
    (case k7 => k_is)
    (case a8 => k_is)
    (case l8 => k_is)
    (case c8 => k_is)
    (case k8 => k_is)
    (case a9 => k_is)
    (case l9 => k_is)
    (case c9 => k_is)
    (case k9 => k_is)
    (case a10 => k_is)
    (case l10 => k_is)
    (case c10 => k_is)
    (case k10 => k_is)
    (case a11 => k_is)
    (case l11 => k_is)
    (case c11 => k_is)
    (case k11 => k_is)
    (case a12 => k_is)
    (case l12 => k_is)
    (case c12 => k_is)
    (case k12 => k_is)
    (case a13 => k_is)
    (case i13 => k_is)
    (case l13 => k_is)
    (case c13 => k_is)
    (case k13 => k_is)
    (case a14 => k_is)
    (case i14 => k_is)
    (case l14 => k_is)
    (case c14 => k_is)
    (case k14 => k_is)
    (case a15 => k_is)
    (case i15 => k_is)
    (case l15 => k_is)
    (case c15 => k_is)
    (case k15 => k_is)
    (case a16 => k_is)
    (case i16 => k_is)
    (case l16 => k_is)
    (case c16 => k_is)
    (case k16 => k_is)
    (case a17 => k_is)
    (case i17 => k_is)
    (case l17 => k_is)
    (case c17 => k_is)
    (case k17 => k_is)
    (case a18 => k_is)
    (case i18 => k_is)
    (case l18 => k_is)
    (case c18 => k_is)
    (case k18 => k_is)
    (case a19 => k_is)
    (case l19 => k_is)
    (case c19 => k_is)
    (case k19 => k_is)
    (case a20 => k_is)
    (case l20 => k_is)
    (case c20 => k_is)
    (case k20 => k_is)
    (case a21 => k_is)
    (case l21 => k_is)
    (case c21 => k_is)
    (case k21 => k_is)
    (case a22 => k_is)
    (case l22 => k_is)
    (case c22 => k_is)
    (case k22 => k_is)
    (case a23 => k_is)
    (case l23 => k_is)
    (case c23 => k_is)
    (case k23 => k_is)
    (case a24 => k_is)
    (case l24 => k_is)
    (case c24 => k_is)
    (case k24 => k_is)
    (case a25 => k_is)
    (case l25 => k_is)
    (case c25 => k_is)
    (case k25 => k_is)
    (case a26 => k_is)
    (case l26 => k_is)
    (case c26 => k_is)
    (case k26 => k_is)
    (case a27 => k_is)
    (case l27 => k_is)
    (case c27 => k_is)
    (case k27 => k_is)
    (case pgC1 => k_is)
    (case hdC1 => k_is)
    (case poC1 => k_is)
    (case saC1 => k_is)
    (case mkC1 => k_is)
    (case kcC1 => k_is)
    (case naC1_lines => k_is)
    (case naC1_wishes => k_is)
    (case naC1_fixed => k_is)
    (case naC1_levels => k_is)
    (case pgC2 => k_is)
    (case hdC2 => k_is)
    (case poC2 => k_is)
    (case saC2 => k_is)
    (case mkC2 => k_is)
    (case kcC2 => k_is)
    (case naC2modulus => k_is)
    (case naC2roots => k_is)
    (case naC2offsets => k_is)
    (case naC2ways => k_is)
    (case vmostl => k_is)
    (case vmostw => k_is)
    (case b0 => k_is)
    (case b1 => k_is)
    (case b2 => k_is)
    (case b3 => k_is)
    (case b4 => k_is)
    (case b5 => k_is)
    (case b6 => k_is)
    (case b7 => k_is)
    (case b8 => k_is)
    (case b9 => k_is)
    (case b10 => k_is)
    (case b11 => k_is)
    (case b12 => k_is)
    (case b13 => k_is)
    (case b14 => k_is)
    (case b15 => k_is)
    (case b16 => k_is)
    (case b17 => k_is)
    (case b18 => k_is)
    (case b19 => k_is)
    (case b20 => k_is)
    (case b21 => k_is)
    (case b22 => k_is)
    (case b23 => k_is)
    (case b24 => k_is)

