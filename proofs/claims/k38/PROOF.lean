import PyProof.Rows.All
import Wide.All
import OpenK.AllK
import Wide.FinOn
import HandS.ForMost
import HandS.ForExc
import HandS.Wide
import HandS.WideBits
import HandS.IsInst
import HandS.Star
import HandS.Property
import HandS.Flow
import HandS.Walk
import HandS.Comp
import HandS.NoneIn
import HandS.Zip
import HandS.SortInts
import HandS.Text
import HandS.ClsMeth
import KE.KSuper
import PyProof.Rows.NestShow
import PyProof.FitsInt
import KE.KOpsOwn
import PyProof.InstNe
import HandS.Style
import HandS.Conv
import HandS.SetFor
import HandS.Strs
import HandS.RaiseMore
import HandS.ExcOwn
import HandS.ExcIs
import HandS.ExcCtx
import HandS.HotCalls
import PyProof.LongRange
import HandS.FStr
import HandS.Dict
import HandS.More
import PySem.Challenge.RW_onwardlines_k38_errors_of_departures
set_option Elab.async false
set_option linter.all false
set_option maxRecDepth 100000
set_option maxHeartbeats 4000000
/-! ## Base -/
/-! A layer of one's own over the hand layer: what is known of the heap is a list of objects; one goal at a time. -/
namespace Xi
open PySem L2

/-! ### the semantic readings -/
def we (X : Cx) (e : Expr) : TE := fun σ H Q => ∀ (pins : List (Addr × Obj)) (s : Shared), Inv X pins σ H s → wpAny (model X.prog X.w) X.A (eval e X.env) (EP X pins σ Q) X.xe s
def wt (X : Cx) (e : Expr) : TT := fun σ H Q => ∀ (pins : List (Addr × Obj)) (s : Shared), Inv X pins σ H s → wpAny (model X.prog X.w) X.A (isTrue e X.env (eval e X.env)) (TP X pins σ Q) X.xe s
def ww (X : Cx) (e : Expr) : TT := fun σ H Q => ∀ (whole : Sem Value) (pins : List (Addr × Obj)) (s : Shared), Inv X pins σ H s → wpAny (model X.prog X.w) X.A (isTrue e X.env whole) (TP X pins σ Q) X.xe s
def wa (X : Cx) (es : List Expr) : TA := fun σ H Q => ∀ (pos : Pos) (pins : List (Addr × Obj)) (s : Shared), Inv X pins σ H s → wpAny (model X.prog X.w) X.A (spliced (backTo pos (starEach es X.env))) (AP X pins σ Q) X.xe s
def wb (X : Cx) (ss : List Stmt) : TS := fun D σ H => ∀ (pins : List (Addr × Obj)) (s : Shared), Inv X pins σ H s → wpAny (model X.prog X.w) X.A (execs ss X.env) (SP X pins D) X.xe s
def wk (X : Cx) (ks : List Keyword) : TA := fun σ H Q => ∀ (pos : Pos) (pins : List (Addr × Obj)) (s : Shared), Inv X pins σ H s → wpAny (model X.prog X.w) X.A (evalAll ((backToKw pos (keywordEach ks X.env)).map (·.2))) (AP X pins σ Q) X.xe s
section
variable {X : Cx} {e : Expr} {es : List Expr} {ss : List Stmt} {ks : List Keyword} {σ : L2.St} {H : Hp}
theorem pe_we : PE X e (we X e) := ⟨fun pins s _ _ _ I h => h pins s I⟩
theorem pt_wt : PT X e (wt X e) := ⟨fun pins s _ _ _ I h => h pins s I⟩
theorem pw_ww : PW X e (ww X e) := ⟨fun wh pins s _ _ _ I h => h wh pins s I⟩
theorem pa_wa : PA X es (wa X es) := ⟨fun pos pins s _ _ _ I h => h pos pins s I⟩
theorem pb_wb : PSs X ss (wb X ss) := ⟨fun pins s _ _ _ I h => h pins s I⟩
theorem pk_wk : PK X ks (wk X ks) := ⟨fun pos pins s _ _ _ I h => h pos pins s I⟩
theorem we_of {t : TE} (p : PE X e t) {Q : VK} (h : t σ H Q) : we X e σ H Q := fun pins s I => p.run pins s σ H Q I h
theorem wt_of {t : TT} (p : PT X e t) {Q : Bool → Hp → Prop} (h : t σ H Q) : wt X e σ H Q := fun pins s I => p.run pins s σ H Q I h
theorem ww_of {t : TT} (p : PW X e t) {Q : Bool → Hp → Prop} (h : t σ H Q) : ww X e σ H Q := fun wh pins s I => p.run wh pins s σ H Q I h
theorem wa_of {t : TA} (p : PA X es t) {Q : List V → Hp → Prop} (h : t σ H Q) : wa X es σ H Q := fun pos pins s I => p.run pos pins s σ H Q I h
theorem wb_of {t : TS} (p : PSs X ss t) {D : Ends} (h : t D σ H) : wb X ss D σ H := fun pins s I => p.run pins s σ H D I h
theorem wk_of {t : TA} (p : PK X ks t) {Q : List V → Hp → Prop} (h : t σ H Q) : wk X ks σ H Q := fun pos pins s I => p.run pos pins s σ H Q I h
theorem we_mono {Q Q' : VK} (h : we X e σ H Q) (k : ∀ v H', Q v H' → Q' v H') : we X e σ H Q' := fun pins s I => thn (h pins s I) fun _ _ ⟨v, H', I', r, q⟩ => ⟨v, H', I', r, k v H' q⟩
theorem wt_mono {Q Q' : Bool → Hp → Prop} (h : wt X e σ H Q) (k : ∀ v H', Q v H' → Q' v H') : wt X e σ H Q' := fun pins s I => thn (h pins s I) fun b _ ⟨H', I', q⟩ => ⟨H', I', k b H' q⟩
theorem ww_mono {Q Q' : Bool → Hp → Prop} (h : ww X e σ H Q) (k : ∀ v H', Q v H' → Q' v H') : ww X e σ H Q' := fun wh pins s I => thn (h wh pins s I) fun b _ ⟨H', I', q⟩ => ⟨H', I', k b H' q⟩
theorem wa_mono {Q Q' : List V → Hp → Prop} (h : wa X es σ H Q) (k : ∀ v H', Q v H' → Q' v H') : wa X es σ H Q' := fun pos pins s I => thn (h pos pins s I) fun _ _ ⟨v, H', I', r, q⟩ => ⟨v, H', I', r, k v H' q⟩
theorem wk_mono {Q Q' : List V → Hp → Prop} (h : wk X ks σ H Q) (k : ∀ v H', Q v H' → Q' v H') : wk X ks σ H Q' := fun pos pins s I => thn (h pos pins s I) fun _ _ ⟨v, H', I', r, q⟩ => ⟨v, H', I', r, k v H' q⟩
theorem wb_mono {D D' : Ends} (h : wb X ss D σ H) (k1 : ∀ σ H, D.nx σ H → D'.nx σ H) (k2 : ∀ v H, D.rt v H → D'.rt v H) (k3 : ∀ σ H, D.bk σ H → D'.bk σ H) (k4 : ∀ σ H, D.ct σ H → D'.ct σ H) : wb X ss D' σ H := fun pins s I =>
  thn (h pins s I) fun f _ q => by
    cases f with
    | next => obtain ⟨σ', H', I', q⟩ := q; exact ⟨σ', H', I', k1 _ _ q⟩
    | brk => obtain ⟨σ', H', I', q⟩ := q; exact ⟨σ', H', I', k3 _ _ q⟩
    | cont => obtain ⟨σ', H', I', q⟩ := q; exact ⟨σ', H', I', k4 _ _ q⟩
    | ret u => obtain ⟨v, σ', H', I', r, q⟩ := q; exact ⟨v, σ', H', I', r, k2 _ _ q⟩
end

/-! ### what is known of the heap -/
abbrev LL := List (Addr × HO)
/-- behind the entry H0 (M: what may change there): the objects of L stand as they say -/
structure Hs (H0 : Hp) (M : Addr → Prop) (L : LL) (H : Hp) : Prop where
  nd : (L.map (·.1)).Pairwise fun a b => a ≠ b ∨ (H0 a ≠ none ∧ ¬ M a)
  at_ : ∀ q ∈ L, H q.1 = some q.2
  fr : ∀ b o, H0 b = some o → ¬ M b → H b = some o
  md : ∀ b, M b → ∃ o, H b = some o
/-- L' is a part of L -/
abbrev Sub (L' L : LL) : Prop := List.Sublist L' L
/-- f stands at a place of L; g: L with another thing there -/
inductive Spot : LL → Addr → HO → (HO → LL) → Prop where
  | here {L : LL} {a : Addr} {o : HO} : Spot ((a, o) :: L) a o (fun o' => (a, o') :: L)
  | there {L : LL} {a : Addr} {o : HO} {q : Addr × HO} {g : HO → LL} (h : Spot L a o g) : Spot (q :: L) a o (fun o' => q :: g o')
/-- a stands with o in L -/
inductive At : LL → Addr → HO → Prop where
  | here {L : LL} {a : Addr} {o : HO} : At ((a, o) :: L) a o
  | there {L : LL} {a : Addr} {o : HO} {q : Addr × HO} (h : At L a o) : At (q :: L) a o
theorem At.mem {L : LL} {a : Addr} {o : HO} (h : At L a o) : (a, o) ∈ L := by
  induction h with
  | here => exact List.mem_cons_self
  | there _ ih => exact List.mem_cons_of_mem _ ih
theorem At.of_mem : ∀ {L : LL} {a : Addr} {o : HO}, (a, o) ∈ L → At L a o
  | _ :: _, _, _, h => by
    rcases List.mem_cons.mp h with e | h
    · cases e; exact .here
    · exact .there (At.of_mem h)
theorem Spot.mem {L : LL} {a : Addr} {o : HO} {g : HO → LL} (h : Spot L a o g) : (a, o) ∈ L := by
  induction h with
  | here => exact List.mem_cons_self
  | there _ ih => exact List.mem_cons_of_mem _ ih
theorem Spot.keys {L : LL} {a : Addr} {o : HO} {g : HO → LL} (h : Spot L a o g) (o' : HO) : (g o').map (·.1) = L.map (·.1) := by
  induction h with
  | here => rfl
  | there _ ih => show _ :: _ = _ :: _; rw [ih]
theorem Spot.other {L : LL} {a : Addr} {o : HO} {g : HO → LL} (h : Spot L a o g) (o' : HO) : ∀ q ∈ g o', q = (a, o') ∨ (q ∈ L) := by
  induction h with
  | here => intro q hq; rcases List.mem_cons.mp hq with e | hq; exact .inl e; exact .inr (List.mem_cons_of_mem _ hq)
  | there _ ih =>
    intro q hq
    rcases List.mem_cons.mp hq with e | hq
    · exact .inr (by rw [e]; exact List.mem_cons_self)
    · exact (ih q hq).elim .inl fun z => .inr (List.mem_cons_of_mem _ z)
section
variable {H0 H H' : Hp} {M : Addr → Prop} {L L' : LL} {a p : Addr} {o o' : HO} {g : HO → LL}
theorem Hs.get (h : Hs H0 M L H) (m : At L a o) : H a = some o := h.at_ _ m.mem
theorem Hs.sub (h : Hs H0 M L H) (s : Sub L' L) : Hs H0 M L' H := ⟨h.nd.sublist (s.map _), fun q hq => h.at_ q (s.subset hq), h.fr, h.md⟩
theorem Hs.fresh (h : Hs H0 M L H) (n : H p = none) : H0 p = none := by
  cases q : H0 p with
  | none => rfl
  | some u =>
    by_cases m : M p
    · obtain ⟨v, e⟩ := h.md p m
      rw [n] at e; cases e
    · rw [h.fr p u q m] at n; cases n
theorem Hs.notin (h : Hs H0 M L H) (n : H p = none) : p ∉ L.map (·.1) := fun z => by
  obtain ⟨q, hq, e⟩ := List.mem_map.mp z
  have := h.at_ q hq
  rw [e, n] at this; cases this
theorem Hs.notM (h : Hs H0 M L H) (n : H p = none) : ¬ M p := fun z => by
  obtain ⟨v, e⟩ := h.md p z
  rw [n] at e; cases e
/-- a new object -/
theorem Hs.new (h : Hs H0 M L H) (n : H p = none) : Hs H0 M ((p, o) :: L) (upd H p o) where
  nd := List.pairwise_cons.mpr ⟨fun b hb => .inl fun e => h.notin n (by have e2 : p = b := e; rw [e2]; exact hb), h.nd⟩
  at_ := fun q hq => by
    rcases List.mem_cons.mp hq with e | hq
    · rw [e]; exact upd_same
    · have e := h.at_ q hq
      rw [upd_ne (ne_of_none e n)]; exact e
  fr := fun b u e m => by
    have e1 := h.fr b u e m
    rw [upd_ne (ne_of_none e1 n)]; exact e1
  md := fun b m => by
    obtain ⟨v, e⟩ := h.md b m
    exact ⟨v, by rw [upd_ne (ne_of_none e n)]; exact e⟩
theorem Spot.only {a : Addr} {o o' : HO} {R : Addr → Prop} (c : ¬ R a) : ∀ {L : LL} {g : HO → LL}, Spot L a o g → (L.map (·.1)).Pairwise (fun a b => a ≠ b ∨ R a) → ∀ q ∈ g o', q.1 = a → q = (a, o') := by
  intro L g s
  induction s with
  | here =>
    intro nd q hq e
    rcases List.mem_cons.mp hq with z | z
    · exact z
    · exact ((List.pairwise_cons.mp nd).1 q.1 (List.mem_map.mpr ⟨q, z, rfl⟩)).elim (fun ne => absurd e.symm ne) fun r => absurd r c
  | there s ih =>
    intro nd q hq e
    rcases List.mem_cons.mp hq with z | z
    · subst z
      exact ((List.pairwise_cons.mp nd).1 _ (List.mem_map.mpr ⟨_, s.mem, rfl⟩)).elim (fun ne => absurd e ne) fun r => absurd (e ▸ r) c
    · exact ih c (List.pairwise_cons.mp nd).2 q z e
theorem put_not {H0 : Hp} {M : Addr → Prop} {a : Addr} (c : H0 a = none ∨ M a) : ¬ (H0 a ≠ none ∧ ¬ M a) := fun ⟨x, y⟩ => c.elim x y
/-- a known object changes -/
theorem Hs.put (h : Hs H0 M L H) (s : Spot L a o g) (c : H0 a = none ∨ M a) : Hs H0 M (g o') (upd H a o') where
  nd := by rw [s.keys]; exact h.nd
  at_ := fun q hq => by
    by_cases e : q.1 = a
    · rw [s.only (put_not c) h.nd q hq e]; exact upd_same
    · rw [upd_ne e]
      rcases s.other o' q hq with z | z
      · rw [z] at e; exact absurd rfl e
      · exact h.at_ q z
  fr := fun b u e m => by
    by_cases z : b = a
    · subst z
      rcases c with c | c
      · rw [c] at e; cases e
      · exact absurd c m
    · rw [upd_ne z]; exact h.fr b u e m
  md := fun b m => by
    by_cases z : b = a
    · subst z; exact ⟨o', upd_same⟩
    · obtain ⟨v, e⟩ := h.md b m
      exact ⟨v, by rw [upd_ne z]; exact e⟩
/-- the heap grows: all that was tracked stands -/
abbrev Ext (H H' : Hp) : Prop := ∀ b o, H b = some o → H' b = some o
theorem Hs.ext (h : Hs H0 M L H) (e : Ext H H') : Hs H0 M L H' := ⟨h.nd, fun q hq => e _ _ (h.at_ q hq), fun b o z m => e _ _ (h.fr b o z m), fun b m => let ⟨v, z⟩ := h.md b m; ⟨v, e _ _ z⟩⟩
/-- N: new objects -/
structure News (H H' : Hp) (N : LL) : Prop where
  nd : (N.map (·.1)).Nodup
  new : ∀ q ∈ N, H q.1 = none
  at_ : ∀ q ∈ N, H' q.1 = some q.2
theorem News.nil : News H H' [] := ⟨List.nodup_nil, fun _ h => (nomatch h), fun _ h => (nomatch h)⟩
theorem Hs.more {N : LL} (h : Hs H0 M L H) (e : Ext H H') (n : News H H' N) : Hs H0 M (N ++ L) H' where
  nd := by
    rw [List.map_append]
    refine List.pairwise_append.mpr ⟨n.nd.imp fun z => .inl z, h.nd, fun a ha b hb => .inl fun z => ?_⟩
    subst z
    obtain ⟨q, hq, rfl⟩ := List.mem_map.mp ha
    exact h.notin (n.new q hq) hb
  at_ := fun q hq => by
    rcases List.mem_append.mp hq with z | z
    · exact n.at_ q z
    · exact e _ _ (h.at_ q z)
  fr := fun b o z m => e _ _ (h.fr b o z m)
  md := fun b m => let ⟨v, z⟩ := h.md b m; ⟨v, e _ _ z⟩
/-- one object changes, the others stand, new ones come -/
structure Chg (H H' : Hp) (a : Addr) (o' : HO) (N : LL) : Prop where
  fr : ∀ b u, H b = some u → b ≠ a → H' b = some u
  at_ : H' a = some o'
  nw : News H H' N
theorem Hs.chg {N : LL} (h : Hs H0 M L H) (s : Spot L a o g) (c : H0 a = none ∨ M a) (x : Chg H H' a o' N) : Hs H0 M (N ++ g o') H' := by
  have h1 : Hs H0 M (g o') (upd H a o') := h.put s c
  have e : Ext (upd H a o') H' := fun b u z => by
    by_cases q : b = a
    · subst q; rw [upd_same] at z; rw [x.at_]; exact z
    · rw [upd_ne q] at z; exact x.fr b u z q
  refine h1.more e ⟨x.nw.nd, fun q hq => ?_, x.nw.at_⟩
  have n := x.nw.new q hq
  have ne : q.1 ≠ a := fun z => by rw [z, h.at_ _ s.mem] at n; cases n
  rw [upd_ne ne]; exact n
theorem Hs.seq {K : PySem.W.Frag} {xs : List V} (h : Hs H0 M L H) (e : SqL K H0 a xs) (m : ¬ M a) : SqL K H a xs := by
  rcases e with (e | ⟨o, e⟩) | e
  · exact .inl (.inl (h.fr _ _ e m))
  · exact .inl (.inr ⟨o, h.fr _ _ e m⟩)
  · exact .inr e
theorem Hs.sq {K : PySem.W.Frag} {xs : List V} (h : Hs H0 M L H) (m : At L a (.lst xs)) : SqL K H a xs := SqL.of (h.get m)
theorem Hs.st {K : PySem.W.Frag} {xs : List V} (h : Hs H0 M L H) (m : At L a (.tup xs)) : SqT K H a xs := SqT.of (h.get m)
end

/-! ### the goals -/
def up (H0 : Hp) (M : Addr → Prop) (Q : V → LL → Prop) : VK := fun v H => ∃ L, Hs H0 M L H ∧ Q v L
def upT (H0 : Hp) (M : Addr → Prop) (Q : Bool → LL → Prop) : Bool → Hp → Prop := fun v H => ∃ L, Hs H0 M L H ∧ Q v L
def upA (H0 : Hp) (M : Addr → Prop) (Q : List V → LL → Prop) : List V → Hp → Prop := fun v H => ∃ L, Hs H0 M L H ∧ Q v L
structure EL where
  nx : L2.St → LL → Prop
  rt : V → LL → Prop
  bk : L2.St → LL → Prop := fun _ _ => False
  ct : L2.St → LL → Prop := fun _ _ => False
def upS (H0 : Hp) (M : Addr → Prop) (Q : L2.St → LL → Prop) : L2.St → Hp → Prop := fun σ H => ∃ L, Hs H0 M L H ∧ Q σ L
def upD (H0 : Hp) (M : Addr → Prop) (D : EL) : Ends := { nx := upS H0 M D.nx, rt := up H0 M D.rt, bk := upS H0 M D.bk, ct := upS H0 M D.ct }
def ke (X : Cx) (H0 : Hp) (M : Addr → Prop) (e : Expr) (σ : L2.St) (L : LL) (Q : V → LL → Prop) : Prop := ∀ H, Hs H0 M L H → we X e σ H (up H0 M Q)
def kt (X : Cx) (H0 : Hp) (M : Addr → Prop) (e : Expr) (σ : L2.St) (L : LL) (Q : Bool → LL → Prop) : Prop := ∀ H, Hs H0 M L H → wt X e σ H (upT H0 M Q)
def kw (X : Cx) (H0 : Hp) (M : Addr → Prop) (e : Expr) (σ : L2.St) (L : LL) (Q : Bool → LL → Prop) : Prop := ∀ H, Hs H0 M L H → ww X e σ H (upT H0 M Q)
def ka (X : Cx) (H0 : Hp) (M : Addr → Prop) (es : List Expr) (σ : L2.St) (L : LL) (Q : List V → LL → Prop) : Prop := ∀ H, Hs H0 M L H → wa X es σ H (upA H0 M Q)
def kk (X : Cx) (H0 : Hp) (M : Addr → Prop) (es : List Keyword) (σ : L2.St) (L : LL) (Q : List V → LL → Prop) : Prop := ∀ H, Hs H0 M L H → wk X es σ H (upA H0 M Q)
def kb (X : Cx) (H0 : Hp) (M : Addr → Prop) (ss : List Stmt) (nx : L2.St → LL → Prop) (rt : V → LL → Prop) (bk ct : L2.St → LL → Prop) (σ : L2.St) (L : LL) : Prop := ∀ H, Hs H0 M L H → wb X ss (upD H0 M ⟨nx, rt, bk, ct⟩) σ H
/-- an operator, a call of a built-in: on values -/
def wo (X : Cx) (f : Value → Value → Sem Value) : R2 := fun x y H Q => ∀ (pins : List (Addr × Obj)) (s : Shared) (σ : L2.St) (v u : Value), Inv X pins σ H s → RelV x v → RelV y u → wpAny (model X.prog X.w) X.A (f v u) (EP X pins σ Q) X.xe s
def wu (X : Cx) (f : Value → Sem Value) : V → Hp → VK → Prop := fun x H Q => ∀ (pins : List (Addr × Obj)) (s : Shared) (σ : L2.St) (v : Value), Inv X pins σ H s → RelV x v → wpAny (model X.prog X.w) X.A (f v) (EP X pins σ Q) X.xe s
theorem op_wo {X : Cx} {f : Value → Value → Sem Value} : OpR X f (wo X f) := fun pins s σ H x y v u Q I rx ry h => h pins s σ v u I rx ry
theorem wo_of {X : Cx} {f : Value → Value → Sem Value} {r : R2} {x y : V} {H : Hp} {Q : VK} (ho : OpR X f r) (h : r x y H Q) : wo X f x y H Q := fun pins s σ v u I rx ry => ho pins s σ H x y v u Q I rx ry h
theorem wo_mono {X : Cx} {f : Value → Value → Sem Value} {x y : V} {H : Hp} {Q Q' : VK} (h : wo X f x y H Q) (k : ∀ v H', Q v H' → Q' v H') : wo X f x y H Q' := fun pins s σ v u I rx ry => thn (h pins s σ v u I rx ry) fun _ _ ⟨v, H', I', r, q⟩ => ⟨v, H', I', r, k v H' q⟩
theorem op_wu {X : Cx} {f : Value → Sem Value} : UnR X f (wu X f) := fun pins s σ H x v Q I rx h => h pins s σ v I rx
theorem wu_of {X : Cx} {f : Value → Sem Value} {r : V → Hp → VK → Prop} {x : V} {H : Hp} {Q : VK} (ho : UnR X f r) (h : r x H Q) : wu X f x H Q := fun pins s σ v I rx => ho pins s σ H x v Q I rx h
def ro (X : Cx) (H0 : Hp) (M : Addr → Prop) (f : Value → Value → Sem Value) (x y : V) (L : LL) (Q : V → LL → Prop) : Prop := ∀ H, Hs H0 M L H → wo X f x y H (up H0 M Q)
def ru (X : Cx) (H0 : Hp) (M : Addr → Prop) (f : Value → Sem Value) (x : V) (L : LL) (Q : V → LL → Prop) : Prop := ∀ H, Hs H0 M L H → wu X f x H (up H0 M Q)
section
variable {X : Cx} {H0 : Hp} {M : Addr → Prop} {e a b c : Expr} {es : List Expr} {σ : L2.St} {L L' : LL} {Q : V → LL → Prop} {QT : Bool → LL → Prop} {QA : List V → LL → Prop} {pos pos' p : Pos} {ss rest body : List Stmt} {nx : L2.St → LL → Prop} {rt : V → LL → Prop} {bk ct : L2.St → LL → Prop} {st : Stmt} {x y z v : V}
/-! ### expressions -/
theorem ke_var (i : Nat) {x : Str} {v : V} (hv : Vis X.env.scope x) (hN : X.N[i]? = some x) (hs : σ[i]? = some (some v)) (h : Q v L) (hd : (x == ("__debug__" : Str)) = false := by decide) (hcd : (x == ("__classdict__" : Str)) = false := by decide) :
    ke X H0 M (.Name x pos) σ L Q := fun H z => we_of (pe_var hN hv hd hcd) ⟨v, hs, L, z, h⟩
theorem ke_c {e : Expr} {v : V} (p : PE X e (tC v)) (h : Q v L) : ke X H0 M e σ L Q := fun H z => we_of p ⟨L, z, h⟩
theorem ke_int {i j} (h : Q (.int i) L) : ke X H0 M (.Constant (.int i) j pos) σ L Q := ke_c pe_int h
theorem ke_bl {i j} (h : Q (.bl i) L) : ke X H0 M (.Constant (.bool i) j pos) σ L Q := ke_c pe_bl h
theorem ke_non {j} (h : Q .non L) : ke X H0 M (.Constant .none j pos) σ L Q := ke_c pe_non h
theorem ke_str {i j} (h : Q (.str i) L) : ke X H0 M (.Constant (.str i) j pos) σ L Q := ke_c pe_str h
theorem ke_op {op : Operator} (h : ke X H0 M a σ L fun x L1 => ke X H0 M b σ L1 fun y L2 => ro X H0 M (binaryOp op) x y L2 Q) : ke X H0 M (.BinOp a op b pos) σ L Q :=
  fun H z => we_of (pe_op op_wo pe_we pe_we) (we_mono (h H z) fun _ H1 ⟨_, z1, k⟩ => we_mono (k H1 z1) fun _ H2 ⟨_, z2, k2⟩ => k2 H2 z2)
theorem ke_un {op : UnaryOp} (h : ke X H0 M a σ L fun x L1 => ru X H0 M (unaryOp op) x L1 Q) : ke X H0 M (.UnaryOp op a pos) σ L Q :=
  fun H z => we_of (pe_un op_wu pe_we) (we_mono (h H z) fun _ H1 ⟨_, z1, k⟩ => k H1 z1)
theorem ke_cmp {op : CmpOp} (hm : behindInMarks op b = false) (h : ke X H0 M a σ L fun x L1 => ke X H0 M b σ L1 fun y L2 => ro X H0 M (compareOp op) x y L2 Q) : ke X H0 M (.Compare a [op] [b] pos) σ L Q :=
  fun H z => we_of (pe_cmpR op_wo pe_we pe_we hm) (we_mono (h H z) fun _ H1 ⟨_, z1, k⟩ => we_mono (k H1 z1) fun _ H2 ⟨_, z2, k2⟩ => k2 H2 z2)
/-- a truth value that parts the way -/
def Pick (v : V) (A B : Prop) : Prop := ∃ k, v = .bl k ∧ (k = true → A) ∧ (k = false → B)
def PickB (k : Bool) (A B : Prop) : Prop := (k = true → A) ∧ (k = false → B)
theorem ke_chain {op op' : CmpOp} (hm : lastMarks [op, op'] [b, c] = false)
    (h : ke X H0 M a σ L fun x L1 => ke X H0 M b σ L1 fun y L2 => ro X H0 M (compareOp op) x y L2 fun t L3 => Pick t (ke X H0 M c σ L3 fun w L4 => ro X H0 M (compareOp op') y w L4 Q) (Q (.bl false) L3)) : ke X H0 M (.Compare a [op, op'] [b, c] pos) σ L Q :=
  fun H z => by
  refine we_of (pe_chain op_wo op_wo pe_we pe_we pe_we hm) (we_mono (h H z) fun x H1 ⟨L1, z1, k1⟩ => we_mono (k1 H1 z1) fun y H2 ⟨L2, z2, k2⟩ => wo_mono (k2 H2 z2) fun t H3 ⟨L3, z3, k, e, kt, kf⟩ => ⟨k, e, ?_⟩)
  cases k with
  | true => exact iteT (we_mono (kt rfl H3 z3) fun w H4 ⟨L4, z4, k4⟩ => k4 H4 z4)
  | false => exact iteF ⟨L3, z3, kf rfl⟩
theorem ke_if (h : kt X H0 M c σ L fun k L1 => PickB k (ke X H0 M a σ L1 Q) (ke X H0 M b σ L1 Q)) : ke X H0 M (.IfExp c a b pos) σ L Q := fun H z => by
  refine we_of (pe_ifExp pt_wt pe_we pe_we) (wt_mono (h H z) fun k H1 ⟨L1, z1, k1, k2⟩ => ?_)
  cases k with
  | true => exact iteT (k1 rfl H1 z1)
  | false => exact iteF (k2 rfl H1 z1)
theorem ke_one {op} (h : ke X H0 M a σ L Q) : ke X H0 M (.BoolOp op [a] pos) σ L Q := fun H z => we_of (pe_one pe_we) (h H z)
theorem ke_and {rest : List Expr} (h : ke X H0 M a σ L fun x L1 => Pick x (ke X H0 M (.BoolOp .And (b :: rest) pos) σ L1 Q) (Q (.bl false) L1)) : ke X H0 M (.BoolOp .And (a :: b :: rest) pos) σ L Q := fun H z => by
  refine we_of (pe_and pe_we pe_we) (we_mono (h H z) fun x H1 ⟨L1, z1, k, e, k1, k2⟩ => ⟨k, e, ?_⟩)
  cases k with
  | true => exact iteT (k1 rfl H1 z1)
  | false => exact iteF ⟨L1, z1, k2 rfl⟩
theorem ke_or {rest : List Expr} (h : ke X H0 M a σ L fun x L1 => Pick x (Q (.bl true) L1) (ke X H0 M (.BoolOp .Or (b :: rest) pos) σ L1 Q)) : ke X H0 M (.BoolOp .Or (a :: b :: rest) pos) σ L Q := fun H z => by
  refine we_of (pe_or pe_we pe_we) (we_mono (h H z) fun x H1 ⟨L1, z1, k, e, k1, k2⟩ => ⟨k, e, ?_⟩)
  cases k with
  | true => exact iteT ⟨L1, z1, k1 rfl⟩
  | false => exact iteF (k2 rfl H1 z1)
theorem ke_not (h : ke X H0 M a σ L fun x L1 => ∃ k, x = .bl k ∧ Q (.bl (!k)) L1) : ke X H0 M (.UnaryOp .Not a pos) σ L Q := fun H z =>
  we_of (pe_not pe_we) (we_mono (h H z) fun x H1 ⟨L1, z1, k, e, k1⟩ => ⟨k, e, L1, z1, k1⟩)
/-! ### displays, arguments -/
theorem ka_nil (h : QA [] L) : ka X H0 M [] σ L QA := fun H z => wa_of pa_nil ⟨L, z, h⟩
theorem ka_cons (hs : starEach (e :: es) X.env = (false, eval e X.env) :: starEach es X.env) (h : ke X H0 M e σ L fun x L1 => ka X H0 M es σ L1 fun xs L2 => QA (x :: xs) L2) : ka X H0 M (e :: es) σ L QA := fun H z =>
  wa_of (pa_cons pe_we pa_wa hs) (we_mono (h H z) fun x H1 ⟨L1, z1, k⟩ => wa_mono (k H1 z1) fun xs H2 q => q)
theorem kk_nil (h : QA [] L) : kk X H0 M [] σ L QA := fun H z => wk_of pk_nil ⟨L, z, h⟩
theorem kk_cons {nm kpos kws} (h : ke X H0 M e σ L fun x L1 => kk X H0 M kws σ L1 fun xs L2 => QA (x :: xs) L2) : kk X H0 M (⟨nm, e, kpos⟩ :: kws) σ L QA := fun H z =>
  wk_of (pk_cons pe_we pk_wk) (we_mono (h H z) fun x H1 ⟨L1, z1, k⟩ => wk_mono (k H1 z1) fun xs H2 q => q)
/-- a new object comes, then Q -/
def New (H0 : Hp) (o : HO) (L : LL) (Q : V → LL → Prop) : Prop := ∀ p, H0 p = none → Q (.ref p) ((p, o) :: L)
theorem new_up {o : HO} {H : Hp} (z : Hs H0 M L H) (k : New H0 o L Q) : ∀ p, H p = none → up H0 M Q (.ref p) (upd H p o) := fun p n => ⟨(p, o) :: L, z.new n, k p (z.fresh n)⟩
theorem ke_lst (h : ka X H0 M es σ L fun xs L1 => xs.length ≤ sizeLine ∧ New H0 (.lst xs) L1 Q) : ke X H0 M (.List es pos) σ L Q := fun H z =>
  we_of (pe_lst pa_wa) (wa_mono (h H z) fun xs H1 ⟨L1, z1, hl, k⟩ => ⟨hl, new_up z1 k⟩)
theorem ke_tup {x1} (h : ka X H0 M es σ L fun xs L1 => xs.length ≤ sizeLine ∧ New H0 (.tup xs) L1 Q) : ke X H0 M (.Tuple es x1 pos) σ L Q := fun H z =>
  we_of (pe_tup pa_wa) (wa_mono (h H z) fun xs H1 ⟨L1, z1, hl, k⟩ => ⟨hl, new_up z1 k⟩)
/-! ### operators on ints -/
theorem ro_of {f : Value → Value → Sem Value} {r : R2} (ho : OpR X f r) (h : ∀ H, Hs H0 M L H → r x y H (up H0 M Q)) : ro X H0 M f x y L Q := fun H z => wo_of ho (h H z)
theorem ru_of {f : Value → Sem Value} {r : V → Hp → VK → Prop} (ho : UnR X f r) (h : ∀ H, Hs H0 M L H → r x H (up H0 M Q)) : ru X H0 M f x L Q := fun H z => wu_of ho (h H z)
section
variable {i j : Int}
theorem ro_add (h : Q (.int (i + j)) L) : ro X H0 M (binaryOp .Add) (.int i) (.int j) L Q := ro_of op_add fun _ z => ⟨i, j, rfl, rfl, L, z, h⟩
theorem ro_sub (h : Q (.int (i - j)) L) : ro X H0 M (binaryOp .Sub) (.int i) (.int j) L Q := ro_of op_sub fun _ z => ⟨i, j, rfl, rfl, L, z, h⟩
theorem ro_mulL (c : -(2 ^ 64) < i ∧ i < 2 ^ 64) (h : Q (.int (i * j)) L) : ro X H0 M (binaryOp .Mult) (.int i) (.int j) L Q := ro_of op_mul fun _ z => ⟨i, j, rfl, rfl, .inl c, L, z, h⟩
theorem ro_mulR (c : -(2 ^ 64) < j ∧ j < 2 ^ 64) (h : Q (.int (i * j)) L) : ro X H0 M (binaryOp .Mult) (.int i) (.int j) L Q := ro_of op_mul fun _ z => ⟨i, j, rfl, rfl, .inr c, L, z, h⟩
theorem ro_mulW {m n : Nat} (ha : i.natAbs < 2 ^ m) (hb : j.natAbs < 2 ^ n) (h0 : 0 < m ∧ 0 < n ∧ m + n ≤ 1000000) (h : Q (.int (i * j)) L) : ro X H0 M (binaryOp .Mult) (.int i) (.int j) L Q :=
  ro_of op_mulW fun _ z => ⟨i, j, rfl, rfl, wide_mul ha hb h0.1 h0.2.1 h0.2.2, L, z, h⟩
theorem ro_mod (c : 0 < j) (h : Q (.int (i % j)) L) : ro X H0 M (binaryOp .Mod) (.int i) (.int j) L Q := ro_of op_modN fun _ z => ⟨i, j, rfl, rfl, (by intro e; omega), L, z, by
  show Q (.int (i.fmod j)) L
  rw [Int.fmod_eq_emod_of_nonneg i (by omega)]; exact h⟩
theorem ro_div {n : Nat} (c : 0 < j) (hb : j.natAbs < 2 ^ n) (h9 : 0 < n ∧ n ≤ 9000) (h : Q (.int (i / j)) L) : ro X H0 M (binaryOp .FloorDiv) (.int i) (.int j) L Q :=
  ro_of op_fdivW fun _ z => ⟨i, j, rfl, rfl, wide_div c hb h9.1 h9.2, L, z, h⟩
theorem ro_pow (c : 0 ≤ j ∧ j ≤ 1000000 ∧ i.natAbs < 2 ^ 64) (h : Q (.int (i ^ j.toNat)) L) : ro X H0 M (binaryOp .Pow) (.int i) (.int j) L Q := ro_of op_pow fun _ z => ⟨i, j, rfl, rfl, c, L, z, h⟩
theorem ro_powV (r : Int) (c : 0 ≤ j ∧ j ≤ 1000000 ∧ i.natAbs < 2 ^ 64) (e : i ^ j.toNat = r) (h : Q (.int r) L) : ro X H0 M (binaryOp .Pow) (.int i) (.int j) L Q := ro_pow c (by rw [e]; exact h)
theorem ro_pow3 (c : i.natAbs < 2 ^ 64) (h : Q (.int (i * i * i)) L) : ro X H0 M (binaryOp .Pow) (.int i) (.int 3) L Q := ro_powV _ ⟨by decide, by decide, c⟩ (by show i ^ 3 = _; rw [Int.pow_succ, Int.pow_succ, Int.pow_succ, Int.pow_zero, Int.one_mul]) h
theorem ro_pow9 (h : Q (.int 1000000000) L) : ro X H0 M (binaryOp .Pow) (.int 10) (.int 9) L Q := ro_powV 1000000000 ⟨by decide, by decide, by decide⟩ (by decide +kernel) h
theorem ro_pow12 (h : Q (.int 1000000000000) L) : ro X H0 M (binaryOp .Pow) (.int 10) (.int 12) L Q := ro_powV 1000000000000 ⟨by decide, by decide, by decide⟩ (by decide +kernel) h
theorem ro_pow13 (h : Q (.int 10000000000000) L) : ro X H0 M (binaryOp .Pow) (.int 10) (.int 13) L Q := ro_powV 10000000000000 ⟨by decide, by decide, by decide⟩ (by decide +kernel) h
theorem ro_pow18 (h : Q (.int 1000000000000000000) L) : ro X H0 M (binaryOp .Pow) (.int 10) (.int 18) L Q := ro_powV 1000000000000000000 ⟨by decide, by decide, by decide⟩ (by decide +kernel) h
theorem ro_pow20 (h : Q (.int 100000000000000000000) L) : ro X H0 M (binaryOp .Pow) (.int 10) (.int 20) L Q := ro_powV 100000000000000000000 ⟨by decide, by decide, by decide⟩ (by decide +kernel) h
theorem ro_pow30 (h : Q (.int 1000000000000000000000000000000) L) : ro X H0 M (binaryOp .Pow) (.int 10) (.int 30) L Q := ro_powV 1000000000000000000000000000000 ⟨by decide, by decide, by decide⟩ (by decide +kernel) h
theorem ro_pow40 (h : Q (.int 10000000000000000000000000000000000000000) L) : ro X H0 M (binaryOp .Pow) (.int 10) (.int 40) L Q := ro_powV 10000000000000000000000000000000000000000 ⟨by decide, by decide, by decide⟩ (by decide +kernel) h
theorem ro_pow58 (h : Q (.int 10000000000000000000000000000000000000000000000000000000000) L) : ro X H0 M (binaryOp .Pow) (.int 10) (.int 58) L Q := ro_powV 10000000000000000000000000000000000000000000000000000000000 ⟨by decide, by decide, by decide⟩ (by decide +kernel) h
theorem ro_pow59 (h : Q (.int 100000000000000000000000000000000000000000000000000000000000) L) : ro X H0 M (binaryOp .Pow) (.int 10) (.int 59) L Q := ro_powV 100000000000000000000000000000000000000000000000000000000000 ⟨by decide, by decide, by decide⟩ (by decide +kernel) h
theorem ro_pow60 (h : Q (.int 1000000000000000000000000000000000000000000000000000000000000) L) : ro X H0 M (binaryOp .Pow) (.int 10) (.int 60) L Q := ro_powV 1000000000000000000000000000000000000000000000000000000000000 ⟨by decide, by decide, by decide⟩ (by decide +kernel) h
theorem ro_lt (h : Q (.bl (decide (i < j))) L) : ro X H0 M (compareOp .Lt) (.int i) (.int j) L Q := ro_of op_lt fun _ z => ⟨i, j, rfl, rfl, L, z, h⟩
theorem ro_le (h : Q (.bl (decide (i ≤ j))) L) : ro X H0 M (compareOp .LtE) (.int i) (.int j) L Q := ro_of op_le fun _ z => ⟨i, j, rfl, rfl, L, z, h⟩
theorem ro_gt (h : Q (.bl (decide (j < i))) L) : ro X H0 M (compareOp .Gt) (.int i) (.int j) L Q := ro_of op_gt fun _ z => ⟨i, j, rfl, rfl, L, z, h⟩
theorem ro_ge (h : Q (.bl (decide (j ≤ i))) L) : ro X H0 M (compareOp .GtE) (.int i) (.int j) L Q := ro_of op_ge fun _ z => ⟨i, j, rfl, rfl, L, z, h⟩
theorem dec_int {i j : Int} : decide (V.int i = V.int j) = decide (i = j) := by
  by_cases e : i = j
  · subst e; simp
  · rw [decide_eq_false e, decide_eq_false fun q => e (V.int.inj q)]
theorem dec_str {i j : Str} : decide (V.str i = V.str j) = decide (i = j) := by
  by_cases e : i = j
  · subst e; simp
  · rw [decide_eq_false e, decide_eq_false fun q => e (V.str.inj q)]
theorem ro_eq (h : Q (.bl (decide (i = j))) L) : ro X H0 M (compareOp .Eq) (.int i) (.int j) L Q := ro_of op_eq fun _ z => ⟨rfl, L, z, by rw [dec_int]; exact h⟩
theorem ro_ne (h : Q (.bl (!decide (i = j))) L) : ro X H0 M (compareOp .NotEq) (.int i) (.int j) L Q := ro_of op_ne fun _ z => ⟨rfl, L, z, by rw [dec_int]; exact h⟩
theorem ro_eqS {x y : Str} (h : Q (.bl (decide (x = y))) L) : ro X H0 M (compareOp .Eq) (.str x) (.str y) L Q := ro_of op_eq fun _ z => ⟨rfl, L, z, by rw [dec_str]; exact h⟩
theorem ro_neS {x y : Str} (h : Q (.bl (!decide (x = y))) L) : ro X H0 M (compareOp .NotEq) (.str x) (.str y) L Q := ro_of op_ne fun _ z => ⟨rfl, L, z, by rw [dec_str]; exact h⟩
theorem ro_isN (h : Q (.bl (decide (x = .non))) L) : ro X H0 M (compareOp .Is) x .non L Q := ro_of op_isN fun _ z => ⟨rfl, L, z, h⟩
theorem ro_notN (h : Q (.bl (!decide (x = .non))) L) : ro X H0 M (compareOp .IsNot) x .non L Q := ro_of op_notN fun _ z => ⟨rfl, L, z, h⟩
theorem ru_neg (h : Q (.int (-i)) L) : ru X H0 M (unaryOp .USub) (.int i) L Q := ru_of un_neg fun _ z => ⟨i, rfl, L, z, h⟩
end
end
/-! ### tests -/
section
variable {X : Cx} {H0 : Hp} {M : Addr → Prop} {e a b c : Expr} {es : List Expr} {σ : L2.St} {L L' : LL} {Q : V → LL → Prop} {QT : Bool → LL → Prop} {QA : List V → LL → Prop} {pos pos' p : Pos} {ss rest body : List Stmt} {nx : L2.St → LL → Prop} {rt : V → LL → Prop} {bk ct : L2.St → LL → Prop} {st : Stmt} {x y z v : V}
theorem kt_val (he : ∀ whole, isTrue e X.env whole = (do let v ← whole; standAt e.pos; holding [v] (truthy v))) (h : ke X H0 M e σ L fun x L1 => ∃ k, x = .bl k ∧ QT k L1) : kt X H0 M e σ L QT := fun H z =>
  wt_of (pt_val pe_we he) (we_mono (h H z) fun x H1 ⟨L1, z1, k, e, q⟩ => ⟨k, e, L1, z1, q⟩)
theorem kt_cmp {op : CmpOp} (hm : behindInMarks op b = false) (h : ke X H0 M a σ L fun x L1 => ke X H0 M b σ L1 fun y L2 => ro X H0 M (compareOp op) x y L2 fun t L3 => ∃ k, t = .bl k ∧ QT k L3) : kt X H0 M (.Compare a [op] [b] pos) σ L QT := fun H z =>
  wt_of (pt_cmpR op_wo pe_we pe_we hm) (we_mono (h H z) fun x H1 ⟨L1, z1, k⟩ => we_mono (k H1 z1) fun y H2 ⟨L2, z2, k2⟩ => wo_mono (k2 H2 z2) fun t H3 ⟨L3, z3, b, e, q⟩ => ⟨b, e, L3, z3, q⟩)
theorem kt_chain {op op' : CmpOp} (hm : lastMarks [op, op'] [b, c] = false)
    (h : ke X H0 M a σ L fun x L1 => ke X H0 M b σ L1 fun y L2 => ro X H0 M (compareOp op) x y L2 fun t L3 => Pick t (ke X H0 M c σ L3 fun w L4 => ro X H0 M (compareOp op') y w L4 fun t L5 => ∃ k, t = .bl k ∧ QT k L5) (QT false L3)) : kt X H0 M (.Compare a [op, op'] [b, c] pos) σ L QT := fun H z => by
  refine wt_of (pt_chain op_wo op_wo pe_we pe_we pe_we hm) (we_mono (h H z) fun x H1 ⟨L1, z1, k1⟩ => we_mono (k1 H1 z1) fun y H2 ⟨L2, z2, k2⟩ => wo_mono (k2 H2 z2) fun t H3 ⟨L3, z3, k, e, kt, kf⟩ => ⟨k, e, ?_⟩)
  cases k with
  | true => exact iteT (we_mono (kt rfl H3 z3) fun w H4 ⟨L4, z4, k4⟩ => wo_mono (k4 H4 z4) fun t H5 ⟨L5, z5, b, e, q⟩ => ⟨b, e, L5, z5, q⟩)
  | false => exact iteF ⟨false, rfl, L3, z3, kf rfl⟩
theorem kt_not (h : kt X H0 M a σ L fun k L1 => QT (!k) L1) : kt X H0 M (.UnaryOp .Not a pos) σ L QT := fun H z => wt_of (pt_not pt_wt) (wt_mono (h H z) fun k H1 q => q)
theorem kt_w (h : kw X H0 M e σ L QT) : kt X H0 M e σ L QT := fun H z => wt_of (PW.pt pw_ww) (h H z)
theorem kw_and1 (h : kt X H0 M a σ L QT) : kw X H0 M (.BoolOp .And [a] pos) σ L QT := fun H z => ww_of (pw_and1 pt_wt) (h H z)
theorem kw_or1 (h : kt X H0 M a σ L QT) : kw X H0 M (.BoolOp .Or [a] pos) σ L QT := fun H z => ww_of (pw_or1 pt_wt) (h H z)
theorem kw_and {rest : List Expr} (h : kt X H0 M a σ L fun k L1 => PickB k (kw X H0 M (.BoolOp .And (b :: rest) pos) σ L1 QT) (QT false L1)) : kw X H0 M (.BoolOp .And (a :: b :: rest) pos) σ L QT := fun H z => by
  refine ww_of (pw_and pt_wt pw_ww) (wt_mono (h H z) fun k H1 ⟨L1, z1, k1, k2⟩ => ?_)
  cases k with
  | true => exact iteT (k1 rfl H1 z1)
  | false => exact iteF ⟨L1, z1, k2 rfl⟩
theorem kw_or {rest : List Expr} (h : kt X H0 M a σ L fun k L1 => PickB k (QT true L1) (kw X H0 M (.BoolOp .Or (b :: rest) pos) σ L1 QT)) : kw X H0 M (.BoolOp .Or (a :: b :: rest) pos) σ L QT := fun H z => by
  refine ww_of (pw_or pt_wt pw_ww) (wt_mono (h H z) fun k H1 ⟨L1, z1, k1, k2⟩ => ?_)
  cases k with
  | true => exact iteT ⟨L1, z1, k1 rfl⟩
  | false => exact iteF (k2 rfl H1 z1)
/-! ### statements: one, then the rest -/
theorem kb_nil (s : Sub L' L) (h : nx σ L') : kb X H0 M [] nx rt bk ct σ L := fun H z => wb_of pss_nil ⟨L', z.sub s, h⟩
theorem kb_nil' (h : nx σ L) : kb X H0 M [] nx rt bk ct σ L := kb_nil (List.Sublist.refl _) h
/-- one statement -/
def wst (X : Cx) (st : Stmt) : TS := fun D σ H => ∀ (pins : List (Addr × Obj)) (s : Shared), Inv X pins σ H s → wpAny (model X.prog X.w) X.A (exec st X.env) (SP X pins D) X.xe s
theorem ps_wst : PS X st (wst X st) := ⟨fun pins s _ _ _ I h => h pins s I⟩
theorem wst_of {t : TS} {D : Ends} {H : Hp} (p : PS X st t) (h : t D σ H) : wst X st D σ H := fun pins s I => p.run pins s σ H D I h
theorem sp_mono {D D' : Ends} {pins : List (Addr × Obj)} {f : Flow} {s : Shared} (q : SP X pins D f s) (k1 : ∀ σ H, D.nx σ H → D'.nx σ H) (k2 : ∀ v H, D.rt v H → D'.rt v H) (k3 : ∀ σ H, D.bk σ H → D'.bk σ H) (k4 : ∀ σ H, D.ct σ H → D'.ct σ H) : SP X pins D' f s := by
  cases f with
  | next => obtain ⟨σ', H', I', q⟩ := q; exact ⟨σ', H', I', k1 _ _ q⟩
  | brk => obtain ⟨σ', H', I', q⟩ := q; exact ⟨σ', H', I', k3 _ _ q⟩
  | cont => obtain ⟨σ', H', I', q⟩ := q; exact ⟨σ', H', I', k4 _ _ q⟩
  | ret u => obtain ⟨v, σ', H', I', r, q⟩ := q; exact ⟨v, σ', H', I', r, k2 _ _ q⟩
def ks (X : Cx) (H0 : Hp) (M : Addr → Prop) (st : Stmt) (nx : L2.St → LL → Prop) (rt : V → LL → Prop) (bk ct : L2.St → LL → Prop) (σ : L2.St) (L : LL) : Prop := ∀ H, Hs H0 M L H → wst X st (upD H0 M ⟨nx, rt, bk, ct⟩) σ H
theorem ks_of {t : TS} (p : PS X st t) (h : ∀ H, Hs H0 M L H → t (upD H0 M ⟨nx, rt, bk, ct⟩) σ H) : ks X H0 M st nx rt bk ct σ L := fun H z => wst_of p (h H z)
theorem kb_seq (h : ks X H0 M st (fun σ L => kb X H0 M rest nx rt bk ct σ L) rt bk ct σ L) : kb X H0 M (st :: rest) nx rt bk ct σ L := fun H z =>
  wb_of (pss_cons ps_wst pb_wb) fun pins s I => thn (h H z pins s I) fun f s' q => sp_mono q (fun σ' H' ⟨L', z', k⟩ => k H' z') (fun _ _ q => q) (fun _ _ q => q) (fun _ _ q => q)
/-- a word between: what follows is shown once -/
theorem kb_cut (Mid : L2.St → LL → Prop) (h : ks X H0 M st Mid rt bk ct σ L) (k : ∀ σ L, Mid σ L → kb X H0 M rest nx rt bk ct σ L) : kb X H0 M (st :: rest) nx rt bk ct σ L := kb_seq fun H z pins s I =>
  thn (h H z pins s I) fun f s' q => sp_mono q (fun σ' H' ⟨L', z', m⟩ => ⟨L', z', k σ' L' m⟩) (fun _ _ q => q) (fun _ _ q => q) (fun _ _ q => q)
theorem ks_set (i : Nat) {x : Str} {pos' : Pos} (hN : X.N.Nodup) (hx : Loc X.env.scope x) (hi : X.N[i]? = some x) (hf : X.fn x = true ∨ X.env.scope.names.lookup x = some .local) (hs : swapsWith e (some (.Name x pos')) pos.line X.env = pure false)
    (h : ke X H0 M e σ L fun v L1 => nx (σ.set i (some v)) L1) : ks X H0 M (.Assign [.Name x pos'] e pos) nx rt bk ct σ L :=
  ks_of (ps_set hN hi hx pe_we hs hf) fun H z => we_mono (h H z) fun v H1 ⟨L1, z1, k⟩ => ⟨L1, z1, k⟩
theorem ks_ret (h : ke X H0 M e σ L rt) : ks X H0 M (.Return (some e) pos) nx rt bk ct σ L := ks_of (ps_ret pe_we) fun H z => h H z
theorem ks_retN (h : rt .non L) : ks X H0 M (.Return none pos) nx rt bk ct σ L := ks_of ps_retN fun H z => ⟨L, z, h⟩
theorem ks_expr (hs : swapsWith e none pos.line X.env = pure false) (h : ke X H0 M e σ L fun _ L1 => nx σ L1) : ks X H0 M (.Expr e pos) nx rt bk ct σ L :=
  ks_of (ps_expr pe_we hs) fun H z => we_mono (h H z) fun v H1 ⟨L1, z1, k⟩ => ⟨L1, z1, k⟩
theorem ks_doc {x j} (h : nx σ L) : ks X H0 M (.Expr (.Constant (.str x) j pos) pos') nx rt bk ct σ L := ks_of ps_doc fun H z => ⟨L, z, h⟩
theorem ks_pass (h : nx σ L) : ks X H0 M (.Pass pos) nx rt bk ct σ L := ks_of ps_pass fun H z => ⟨L, z, h⟩
theorem ks_break (s : Sub L' L) (h : bk σ L') : ks X H0 M (.Break pos) nx rt bk ct σ L := ks_of ps_break fun H z => ⟨L', z.sub s, h⟩
theorem ks_cont (s : Sub L' L) (h : ct σ L') : ks X H0 M (.Continue pos) nx rt bk ct σ L := ks_of ps_continue fun H z => ⟨L', z.sub s, h⟩
theorem ks_if {A B : List Stmt} (h : kt X H0 M c σ L fun k L1 => PickB k (kb X H0 M A nx rt bk ct σ L1) (kb X H0 M B nx rt bk ct σ L1)) : ks X H0 M (.If c A B pos) nx rt bk ct σ L :=
  ks_of (ps_if pt_wt pb_wb pb_wb) fun H z => wt_mono (h H z) fun k H1 ⟨L1, z1, k1, k2⟩ => by
    cases k with
    | true => exact iteT (k1 rfl H1 z1)
    | false => exact iteF (k2 rfl H1 z1)
theorem kb_never (h : False) : kb X H0 M ss nx rt bk ct σ L := h.elim
/-- a target -/
def kg (X : Cx) (H0 : Hp) (M : Addr → Prop) (tg : Expr) (v : V) (σ : L2.St) (L : LL) (P : L2.St → LL → Prop) : Prop := ∀ H, Hs H0 M L H → ∀ (pins : List (Addr × Obj)) (s : Shared) (u : Value), Inv X pins σ H s → RelV v u →
  wpAny (model X.prog X.w) X.A (assign tg X.env u) (fun _ s' => ∃ σ' H', Inv X pins σ' H' s' ∧ upS H0 M P σ' H') X.xe s
def wg (X : Cx) (tg : Expr) : TG := fun v σ H Q => ∀ (pins : List (Addr × Obj)) (s : Shared) (u : Value), Inv X pins σ H s → RelV v u → wpAny (model X.prog X.w) X.A (assign tg X.env u) (fun _ s' => ∃ σ' H', Inv X pins σ' H' s' ∧ Q σ' H') X.xe s
theorem pg_wg {tg : Expr} : PG X tg (wg X tg) := ⟨fun pins s _ _ _ u _ I r h => h pins s u I r⟩
theorem kg_of {tg : Expr} {g : TG} {P : L2.St → LL → Prop} (p : PG X tg g) (h : ∀ H, Hs H0 M L H → g v σ H (upS H0 M P)) : kg X H0 M tg v σ L P := fun H z pins s u I r => p.run pins s σ H v u _ I r (h H z)
theorem kg_name (i : Nat) {x : Str} {P : L2.St → LL → Prop} (hN : X.N.Nodup) (hx : Loc X.env.scope x) (hi : X.N[i]? = some x) (hf : X.fn x = true ∨ X.env.scope.names.lookup x = some .local) (h : P (σ.set i (some v)) L) : kg X H0 M (.Name x pos) v σ L P :=
  kg_of (pg_name hN hi hx hf) fun H z => ⟨L, z, h⟩
theorem ks_asg {tg : Expr} (hs : swapsWithSole [tg] e pos.line X.env = pure false) (hw : swappedStores [tg] e X.env = pure none) (h1 : (assignEach [tg] X.env).map (·.2) = [assign tg X.env])
    (h : ke X H0 M e σ L fun v L1 => kg X H0 M tg v σ L1 nx) : ks X H0 M (.Assign [tg] e pos) nx rt bk ct σ L :=
  ks_of (ps_asg pe_we pg_wg hs hw h1) fun H z => we_mono (h H z) fun v H1 ⟨L1, z1, k⟩ => fun pins s u I r => k H1 z1 pins s u I r
end
/-! ### names by lists -/
/-- the name x has the value v -/
inductive Lk : List Str → L2.St → Str → V → Prop where
  | here {N : List Str} {σ : L2.St} {x : Str} {v : V} : Lk (x :: N) (some v :: σ) x v
  | there {N : List Str} {σ : L2.St} {x y : Str} {v : V} {o : Option V} (h : Lk N σ x v) : Lk (y :: N) (o :: σ) x v
/-- the name x gets the value v -/
inductive Pt : List Str → L2.St → Str → V → L2.St → Prop where
  | here {N : List Str} {σ : L2.St} {x : Str} {v : V} {o : Option V} : Pt (x :: N) (o :: σ) x v (some v :: σ)
  | there {N : List Str} {σ σ' : L2.St} {x y : Str} {v : V} {o : Option V} (h : Pt N σ x v σ') : Pt (y :: N) (o :: σ) x v (o :: σ')
theorem Lk.ix {N : List Str} {σ : L2.St} {x : Str} {v : V} (h : Lk N σ x v) : x ∈ N ∧ ∃ i : Nat, N[i]? = some x ∧ σ[i]? = some (some v) := by
  induction h with
  | here => exact ⟨List.mem_cons_self, 0, rfl, rfl⟩
  | there _ ih => obtain ⟨m, i, a, b⟩ := ih; exact ⟨List.mem_cons_of_mem _ m, i + 1, a, b⟩
theorem Pt.ix {N : List Str} {σ σ' : L2.St} {x : Str} {v : V} (h : Pt N σ x v σ') : x ∈ N ∧ ∃ i : Nat, N[i]? = some x ∧ σ.set i (some v) = σ' := by
  induction h with
  | here => exact ⟨List.mem_cons_self, 0, rfl, rfl⟩
  | there _ ih => obtain ⟨m, i, a, b⟩ := ih; exact ⟨List.mem_cons_of_mem _ m, i + 1, a, by rw [List.set_cons_succ, b]⟩
/-- what is known of the names: Nv are read, Nw are stored -/
structure Nm (X : Cx) (N Nv : List Str) : Prop where
  eq : X.N = N
  vis : ∀ x ∈ Nv, Vis X.env.scope x
  plain : ∀ x ∈ Nv, (x == ("__debug__" : Str)) = false ∧ (x == ("__classdict__" : Str)) = false
structure Ns (X : Cx) (N Nv : List Str) : Prop where
  eq : X.N = N
  nd : N.Nodup
  loc : ∀ x ∈ Nv, Loc X.env.scope x ∧ (X.fn x = true ∨ X.env.scope.names.lookup x = some .local)
section
variable {X : Cx} {H0 : Hp} {M : Addr → Prop} {e : Expr} {σ σ' : L2.St} {L : LL} {Q : V → LL → Prop} {pos pos' : Pos} {nx : L2.St → LL → Prop} {rt : V → LL → Prop} {bk ct : L2.St → LL → Prop} {v : V} {N Nv : List Str} {x : Str}
theorem ke_nm (n : Nm X N Nv) (m : x ∈ Nv) (l : Lk N σ x v) (h : Q v L) : ke X H0 M (.Name x pos) σ L Q := by
  obtain ⟨_, i, a, b⟩ := l.ix
  exact ke_var i (n.vis x m) (by rw [n.eq]; exact a) b h (n.plain x m).1 (n.plain x m).2
theorem Ns.ix (n : Ns X N Nv) {i : Nat} (hi : X.N[i]? = some x) (p : Pt N σ x v σ') : σ.set i (some v) = σ' := by
  obtain ⟨_, j, hj, ej⟩ := p.ix
  rw [n.eq] at hi
  have e : i = j := by
    obtain ⟨a1, a2⟩ := List.getElem?_eq_some_iff.mp hi
    obtain ⟨b1, b2⟩ := List.getElem?_eq_some_iff.mp hj
    exact (List.getElem_inj n.nd).mp (a2.trans b2.symm)
  subst e
  exact ej
theorem ks_nm (n : Ns X N Nv) (m : x ∈ Nv) (hs : swapsWith e (some (.Name x pos')) pos.line X.env = pure false) (h : ke X H0 M e σ L fun v L1 => ∃ σ', Pt N σ x v σ' ∧ nx σ' L1) (mN : x ∈ N) : ks X H0 M (.Assign [.Name x pos'] e pos) nx rt bk ct σ L := by
  obtain ⟨i, hi⟩ := List.getElem?_of_mem mN
  rw [← n.eq] at hi
  refine ks_set i (by rw [n.eq]; exact n.nd) (n.loc x m).1 hi (n.loc x m).2 hs fun H z => we_mono (h H z) fun v H1 ⟨L1, z1, σ', p, k⟩ => ⟨L1, z1, ?_⟩
  show nx (σ.set i (some v)) L1
  rw [n.ix hi p]
  exact k
theorem kg_nm {P : L2.St → LL → Prop} (n : Ns X N Nv) (m : x ∈ Nv) (p : Pt N σ x v σ') (h : P σ' L) : kg X H0 M (.Name x pos) v σ L P := by
  obtain ⟨_, i, a, b⟩ := p.ix
  refine kg_name i (by rw [n.eq]; exact n.nd) (n.loc x m).1 (by rw [n.eq]; exact a) (n.loc x m).2 ?_
  rw [b]; exact h
end
/-! ### the same, with what follows -/
def Lq (N : List Str) (σ : L2.St) (x : Str) (P : V → Prop) : Prop := ∃ v, Lk N σ x v ∧ P v
def Pq (N : List Str) (σ : L2.St) (x : Str) (v : V) (P : L2.St → Prop) : Prop := ∃ σ', Pt N σ x v σ' ∧ P σ'
def Aq (L : LL) (a : Addr) (P : HO → Prop) : Prop := ∃ o, At L a o ∧ P o
def Sq (L : LL) (a : Addr) (P : HO → (HO → LL) → Prop) : Prop := ∃ o g, Spot L a o g ∧ P o g
section
variable {N : List Str} {σ : L2.St} {x y : Str} {v : V} {o : Option V} {L : LL} {a : Addr} {h : HO} {q : Addr × HO}
theorem lq_here {P : V → Prop} (k : P v) : Lq (x :: N) (some v :: σ) x P := ⟨v, .here, k⟩
theorem lq_there {P : V → Prop} (k : Lq N σ x P) : Lq (y :: N) (o :: σ) x P := let ⟨v, l, p⟩ := k; ⟨v, .there l, p⟩
theorem pq_here {P : L2.St → Prop} (k : P (some v :: σ)) : Pq (x :: N) (o :: σ) x v P := ⟨_, .here, k⟩
theorem pq_there {P : L2.St → Prop} (k : Pq N σ x v fun σ' => P (o :: σ')) : Pq (y :: N) (o :: σ) x v P := let ⟨σ', l, p⟩ := k; ⟨_, .there l, p⟩
theorem aq_here {P : HO → Prop} (k : P h) : Aq ((a, h) :: L) a P := ⟨h, .here, k⟩
theorem aq_there {P : HO → Prop} (k : Aq L a P) : Aq (q :: L) a P := let ⟨o, l, p⟩ := k; ⟨o, .there l, p⟩
theorem sq_here {P : HO → (HO → LL) → Prop} (k : P h fun o' => (a, o') :: L) : Sq ((a, h) :: L) a P := ⟨_, _, .here, k⟩
theorem sq_there {P : HO → (HO → LL) → Prop} (k : Sq L a fun o g => P o fun o' => q :: g o') : Sq (q :: L) a P := let ⟨o, g, l, p⟩ := k; ⟨o, _, .there l, p⟩
end
section
variable {X : Cx} {H0 : Hp} {M : Addr → Prop} {e : Expr} {σ σ' : L2.St} {L : LL} {Q : V → LL → Prop} {pos pos' : Pos} {nx : L2.St → LL → Prop} {rt : V → LL → Prop} {bk ct : L2.St → LL → Prop} {v : V} {N Nv : List Str} {x : Str}
theorem ke_n (n : Nm X N Nv) (m : x ∈ Nv) (l : Lq N σ x fun v => Q v L) : ke X H0 M (.Name x pos) σ L Q := let ⟨_, a, b⟩ := l; ke_nm n m a b
theorem ks_n (n : Ns X N Nv) (m : x ∈ Nv) (mN : x ∈ N) (hs : swapsWith e (some (.Name x pos')) pos.line X.env = pure false) (h : ke X H0 M e σ L fun v L1 => Pq N σ x v fun σ' => nx σ' L1) : ks X H0 M (.Assign [.Name x pos'] e pos) nx rt bk ct σ L := ks_nm n m hs h mN
theorem kg_n {P : L2.St → LL → Prop} (n : Ns X N Nv) (m : x ∈ Nv) (h : Pq N σ x v fun σ' => P σ' L) : kg X H0 M (.Name x pos) v σ L P := let ⟨_, a, b⟩ := h; kg_nm n m a b
end
/-! ### ways -/
theorem pick_dec {p : Prop} [Decidable p] {A B : Prop} (h1 : p → A) (h2 : ¬ p → B) : Pick (.bl (decide p)) A B := ⟨_, rfl, fun h => h1 (of_decide_eq_true h), fun h => h2 (of_decide_eq_false h)⟩
theorem pick_ndec {p : Prop} [Decidable p] {A B : Prop} (h1 : ¬ p → A) (h2 : p → B) : Pick (.bl (!decide p)) A B := ⟨_, rfl, fun h => h1 (by simpa using h), fun h => h2 (by simpa using h)⟩
theorem pick_T {A B : Prop} (h : A) : Pick (.bl true) A B := ⟨_, rfl, fun _ => h, fun z => Bool.noConfusion z⟩
theorem pick_F {A B : Prop} (h : B) : Pick (.bl false) A B := ⟨_, rfl, fun z => Bool.noConfusion z, fun _ => h⟩
theorem pick_Y {k : Bool} {A B : Prop} (e : k = true) (h : A) : Pick (.bl k) A B := ⟨k, rfl, fun _ => h, fun z => Bool.noConfusion (e.symm.trans z)⟩
theorem pick_N {k : Bool} {A B : Prop} (e : k = false) (h : B) : Pick (.bl k) A B := ⟨k, rfl, (fun z => Bool.noConfusion (e.symm.trans z)), fun _ => h⟩
theorem pick_2 {k : Bool} {A B : Prop} (h1 : k = true → A) (h2 : k = false → B) : Pick (.bl k) A B := ⟨_, rfl, h1, h2⟩
theorem pickB_dec {p : Prop} [Decidable p] {A B : Prop} (h1 : p → A) (h2 : ¬ p → B) : PickB (decide p) A B := ⟨fun h => h1 (of_decide_eq_true h), fun h => h2 (of_decide_eq_false h)⟩
theorem pickB_ndec {p : Prop} [Decidable p] {A B : Prop} (h1 : ¬ p → A) (h2 : p → B) : PickB (!decide p) A B := ⟨fun h => h1 (by simpa using h), fun h => h2 (by simpa using h)⟩
theorem pickB_Y {k : Bool} {A B : Prop} (e : k = true) (h : A) : PickB k A B := ⟨fun _ => h, fun z => Bool.noConfusion (e.symm.trans z)⟩
theorem pickB_N {k : Bool} {A B : Prop} (e : k = false) (h : B) : PickB k A B := ⟨(fun z => Bool.noConfusion (e.symm.trans z)), fun _ => h⟩
theorem pickB_2 {k : Bool} {A B : Prop} (h1 : k = true → A) (h2 : k = false → B) : PickB k A B := ⟨h1, h2⟩
end Xi

/-! ## Fn -/
/-! Defs and their promises, at runs where no text of an object is being made (the guards are known and empty). -/
namespace Xi
open PySem PySem.Spec PyProof.Rows L2 StX

structure Fk (P : Program) (w : World) (K : PySem.W.Frag) (mg : Str → Option Value) (base : Heap) (CX : CXT) (k : Nat) (f : Addr) (fd : FuncData) (ps : List Str) (sp : Sp) : Prop where
  len : ∀ vs H Q E, sp vs H Q E → vs.length = ps.length
  go : ∀ (A : Around) (out : List Env) (s : Shared) (H : Hp) (ag : Args) (us : List Value) (vs : List V) (Q : VK) (E : XK), Room k A → A.guards = some [] → Env0 P w K mg base A out s H → BindsTo s fd ag (ps.zip us) → Vals vs us → sp vs H Q E →
    codeAny (model P w) A (.call (.ref f) ag) (CR CX out P w H s Q E) s
section
variable {P : Program} {w : World} {K : PySem.W.Frag} {mg : Str → Option Value} {base : Heap} {CX : CXT} {j k : Nat} {f : Addr} {fd : FuncData} {ps : List Str} {sp sp' : Sp}
theorem Fk.up (F : Fk P w K mg base CX j f fd ps sp) (h : j ≤ k) : Fk P w K mg base CX k f fd ps sp := ⟨F.len, fun A out s H ag us vs Q E r => F.go A out s H ag us vs Q E (r.mono h)⟩
theorem Fk.weak (F : Fk P w K mg base CX k f fd ps sp) (h : ∀ vs H Q E, sp' vs H Q E → sp vs H Q E) : Fk P w K mg base CX k f fd ps sp' :=
  ⟨fun vs H Q E q => F.len vs H Q E (h _ _ _ _ q), fun A out s H ag us vs Q E r g e b v q => F.go A out s H ag us vs Q E r g e b v (h _ _ _ _ q)⟩
end

/-- a def by its body -/
theorem fk_of {CX : CXT} {P : Program} {w : World} {K : PySem.W.Frag} {mg : Str → Option Value} {base : Heap} {k : Nat} {f : Addr} {fd : FuncData} {x qual : Str} {st : Stmt} {N ps : List Str} {sp : Sp} (F : Fun K x qual st f fd) (S : FnScope N ps (defScope st))
    (len : ∀ vs H Q E, sp vs H Q E → vs.length = ps.length)
    (hb : ∀ (cdv : Value) (A : Around) (out : List Env) (s : Shared) (H : Hp) (vs : List V) (Q : VK) (E : XK), Room k (A.deeper (envOfC qual (defScope st) s.heap.objs.size f cdv)) → A.guards = some [] → sp vs H Q E →
      wb (cxOf CX P w K mg base N qual (defScope st) f cdv A out s H E) (defBody st) { nx := fun _ H' => Q .non H', rt := Q } (start N vs) H) : Fk P w K mg base CX (k + 1) f fd ps sp := by
  obtain ⟨oc, od, kV, doc, pm, an, cdv, ct, osl, efd, lk, hcode⟩ := F.ex
  subst efd
  refine ⟨len, fun A out s H ag us vs Q E room gd e0 bnd rv q => ?_⟩
  have KX : K.In s.heap := e0.mod.kin.keeps fun b o e => (e0.bs b o e).1
  have nolim : s.heap.NoLimit := e0.mod.nolimit.keeps fun b o e => (e0.bs b o e).1
  have known : ∀ y ∈ ps.zip us, (defScope st).names.lookup y.1 = some .local ∨ ((defScope st).names.lookup y.1 = some .cell ∧ ((cellsFrom (s.heap.objs.size + 1) (defScope st).names []).lookup y.1).isSome = true) := by
    rintro ⟨n, v⟩ hy
    have hn := S.par n (List.of_mem_zip hy).1
    exact hn.imp id fun q => ⟨q, PySem.W.cellsFrom_some _ _ _ (.inl q)⟩
  refine codeAny_call_function room.depth (KX f _ lk) rfl S.co S.gen rfl (PySem.W.codeRec_of KX hcode) (bnd _ _ _ _ ?_)
  refine wpAny_newFunctionEnv_cells S.kind known fun env eenv s1 inn => ?_
  subst eenv
  refine ⟨nolim.keeps inn.toInCall.keep, codeAny_func ?_⟩
  have I : Inv (cxOf CX P w K mg base N qual (defScope st) f cdv A out s H E) [] (start N vs) H s1 := inv_start S room.hd e0 (len _ _ _ _ q) rv inn
  refine wpAny_mono (hb cdv A out s H vs Q E (room.deeper _) gd q [] s1 I) (fun fl s2 hs => ?_) fun e s2 hs => hs
  cases fl with
  | ret u => obtain ⟨v, σ2, H2, J, rv2, q2⟩ := hs; exact ⟨v, H2, J.os, J.bare, J.base, J.hok, rv2, q2⟩
  | next => obtain ⟨σ2, H2, J, q2⟩ := hs; exact ⟨.non, H2, J.os, J.bare, J.base, J.hok, rfl, q2⟩
  | brk => obtain ⟨_, _, _, z⟩ := hs; exact z.elim
  | cont => obtain ⟨_, _, _, z⟩ := hs; exact z.elim

/-- from the goals of the layer to the body -/
theorem wb_kb {X : Cx} {M : Addr → Prop} {L : LL} {H : Hp} {σ : L2.St} {Q : VK} {ss : List Stmt} (hs : Hs H M L H) (h : kb X H M ss (fun _ L' => ∀ H', Hs H M L' H' → Q .non H') (fun v L' => ∀ H', Hs H M L' H' → Q v H') (fun _ _ => False) (fun _ _ => False) σ L) :
    wb X ss { nx := fun _ H' => Q .non H', rt := Q } σ H :=
  wb_mono (h H hs) (fun _ _ ⟨_, z, q⟩ => q _ z) (fun _ _ ⟨_, z, q⟩ => q _ z) (fun _ _ ⟨_, z, q⟩ => q.elim) (fun _ _ ⟨_, z, q⟩ => q.elim)

/-! ### things of the module, with what they promise -/
/-- a def of the module called x -/
structure DefT (P : Program) (w : World) (K : PySem.W.Frag) (mg : Str → Option Value) (base : Heap) (CX : CXT) (k : Nat) (x : Str) (sp : Sp) : Prop where
  ex : ∃ f fd ps, Fk P w K mg base CX k f fd ps sp ∧ mg x = some (.ref f) ∧ PySem.W.keepIn K (.ref f) = true ∧ Binds K fd ps []
theorem DefT.up {P : Program} {w : World} {K : PySem.W.Frag} {mg : Str → Option Value} {base : Heap} {CX : CXT} {j k : Nat} {x : Str} {sp : Sp} (D : DefT P w K mg base CX j x sp) (h : j ≤ k) : DefT P w K mg base CX k x sp :=
  let ⟨f, fd, ps, F, a, b, c⟩ := D.ex; ⟨f, fd, ps, F.up h, a, b, c⟩
/-- a family of classes of which each finds the method m at one def -/
structure MethT (P : Program) (w : World) (K : PySem.W.Frag) (mg : Str → Option Value) (base : Heap) (CX : CXT) (k : Nat) (Cs : Addr → Prop) (m : Str) (sp : Sp) : Prop where
  ex : ∃ f fd ps, Fk P w K mg base CX k f fd ps sp ∧ (∀ C, Cs C → Cls K C ∧ Meth K C m f) ∧ Binds K fd ps []
/-- .. whose instances are called -/
structure CallT (P : Program) (w : World) (K : PySem.W.Frag) (mg : Str → Option Value) (base : Heap) (CX : CXT) (k : Nat) (Cs : Addr → Prop) (sp : Sp) : Prop where
  ex : ∃ f fd ps, Fk P w K mg base CX k f fd ps sp ∧ (∀ C, Cs C → CallO K C f) ∧ Binds K fd ps []
/-- .. with a property -/
structure PropT (P : Program) (w : World) (K : PySem.W.Frag) (mg : Str → Option Value) (base : Heap) (CX : CXT) (k : Nat) (Cs : Addr → Prop) (m : Str) (sp : Sp) : Prop where
  ex : ∃ f fd ps, Fk P w K mg base CX k f fd ps sp ∧ (∀ C, Cs C → Cls K C ∧ ∃ p, PropOf K C m p f) ∧ Binds K fd ps []
/-- a class of the module called x, its __init__ with a promise -/
structure MakeT (P : Program) (w : World) (K : PySem.W.Frag) (mg : Str → Option Value) (base : Heap) (CX : CXT) (k : Nat) (x : Str) (C : Addr) (sp : Sp) : Prop where
  ex : ∃ f fd ps, Fk P w K mg base CX k f fd ps sp ∧ mg x = some (.ref C) ∧ Mk K C f ∧ Binds K fd ps []

/-- a body of a def that lets nothing out, running -/
structure Body (X : Cx) (P : Program) (w : World) (K : PySem.W.Frag) (mg : Str → Option Value) (base : Heap) (k : Nat) (N Nv : List Str) (sc : Scope) : Prop where
  prog : X.prog = P
  w : X.w = w
  K : X.K = K
  mg : X.mg = mg
  base : X.base = base
  room : Room k X.A
  gd : X.A.guards = some []
  nm : Nm X N Nv
  scope : X.env.scope = sc
  calm : X.calm = true
  own : PassesOwn (model X.prog X.w) X.A X.env X.xe
section
variable {X : Cx} {P : Program} {w : World} {K : PySem.W.Frag} {mg : Str → Option Value} {base : Heap} {k j : Nat} {N Nv : List Str} {sc : Scope} {CX : CXT} {sp : Sp} {x m : Str} {C : Addr} {Cs : Addr → Prop}
theorem Body.gl (b : Body X P w K mg base k N Nv sc) (h : sc.names.lookup x = some .globalImplicit) : Gl X x := by
  show X.env.scope.names.lookup x = some .globalImplicit
  rw [b.scope]; exact h
theorem Body.no (b : Body X P w K mg base k N Nv sc) {x : Str} {o : Option Value} (h : mg x = o) : X.mg x = o := by rw [b.mg]; exact h
theorem Body.df (b : Body X P w K mg base k N Nv sc) (D : DefT P w K mg base CX j x sp) : DefT X.prog X.w X.K X.mg X.base CX j x sp := by rw [b.prog, b.w, b.K, b.mg, b.base]; exact D
theorem Body.mt (b : Body X P w K mg base k N Nv sc) (D : MethT P w K mg base CX j Cs m sp) : MethT X.prog X.w X.K X.mg X.base CX j Cs m sp := by rw [b.prog, b.w, b.K, b.mg, b.base]; exact D
theorem Body.co (b : Body X P w K mg base k N Nv sc) (D : CallT P w K mg base CX j Cs sp) : CallT X.prog X.w X.K X.mg X.base CX j Cs sp := by rw [b.prog, b.w, b.K, b.mg, b.base]; exact D
theorem Body.pr (b : Body X P w K mg base k N Nv sc) (D : PropT P w K mg base CX j Cs m sp) : PropT X.prog X.w X.K X.mg X.base CX j Cs m sp := by rw [b.prog, b.w, b.K, b.mg, b.base]; exact D
theorem Body.mk' (b : Body X P w K mg base k N Nv sc) (D : MakeT P w K mg base CX j x C sp) : MakeT X.prog X.w X.K X.mg X.base CX j x C sp := by rw [b.prog, b.w, b.K, b.mg, b.base]; exact D
theorem Body.rm (b : Body X P w K mg base k N Nv sc) (h : j ≤ k) : Room j X.A := b.room.mono h
end
/-- a def that lets nothing out, by its body -/
theorem fk_body {P : Program} {w : World} {K : PySem.W.Frag} {mg : Str → Option Value} {base : Heap} {k : Nat} {f : Addr} {fd : FuncData} {x qual : Str} {st : Stmt} {ss : List Stmt} {N Nv ps : List Str} {sp : Sp} (F : Fun K x qual st f fd) (S : FnScope N ps (defScope st))
    (l : ∀ x ∈ Nv, (defScope st).names.lookup x = some .local ∨ (defScope st).names.lookup x = some .cell) (p : ∀ x ∈ Nv, (x == ("__debug__" : Str)) = false ∧ (x == ("__classdict__" : Str)) = false) (eb : defBody st = ss)
    (len : ∀ vs H Q E, sp vs H Q E → vs.length = ps.length)
    (hb : ∀ (X : Cx), Body X P w K mg base k N Nv (defScope st) → Ns X N Nv → ∀ (H : Hp) (vs : List V) (Q : VK) (E : XK), sp vs H Q E → wb X ss { nx := fun _ H' => Q .non H', rt := Q } (start N vs) H) : Fk P w K mg base CX0 (k + 1) f fd ps sp :=
  fk_of F S len fun cdv A out s H vs Q E room gd q => by
    rw [eb]
    have bd : Body (cxOf CX0 P w K mg base N qual (defScope st) f cdv A out s H E).nox P w K mg base k N Nv (defScope st) := ⟨rfl, rfl, rfl, rfl, rfl, room, gd, ⟨rfl, fun x m => (l x m).elim .inl fun z => .inr (.inl z), p⟩, rfl, rfl, PassesOwn.never⟩
    exact wb_of (PSs.nox pb_wb) (hb _ bd ⟨rfl, S.nd, fun x m => ⟨l x m, .inl rfl⟩⟩ H vs Q E q)
section
variable {X : Cx} {CX : CXT} {k : Nat} {f C : Addr} {fd : FuncData} {ps : List Str} {sp : Sp} {dvs : List V} {ds : List Value} {E : XK} {x m : Str} {p pos apos : Pos} {e o : Expr} {es : List Expr} {ta : TE} {t : TA}
/-- the callee runs: the call itself -/
theorem fk_code {pins : List (Addr × Obj)} {σ : L2.St} {H : Hp} {s : Shared} {Q : VK} {us : List Value} {vs : List V} (F : Fk X.prog X.w X.K X.mg X.base CX k f fd ps sp) (hr : Room k X.A) (gd : X.A.guards = some []) (hb : Binds X.K fd ps ds) (hd : Vals dvs ds) (hx : Passes CX X E)
    (I : Inv X pins σ H s) (r : Vals vs us) (h : sp (vs ++ dvs) H Q E) : codeAny (model X.prog X.w) X.A (.call (.ref f) ⟨us, []⟩) (fun res s2 => match res with | .ok (.ret u) => EP X pins σ Q u s2 | .ok _ => False | .error er => X.xe er s2) s := by
  have rr : Vals (vs ++ dvs) (us ++ ds) := r.append hd
  have ll : (us ++ ds).length = ps.length := rr.length.symm.trans (F.len _ _ _ _ h)
  refine codeAny_mono (F.go X.A X.stack s H ⟨us, []⟩ (us ++ ds) (vs ++ dvs) Q E hr gd I.env0 (hb s us I.kIn ll) rr h) fun res s2 hq => ?_
  rcases res with er | fl
  · exact hx pins σ H s er s2 I hq
  · cases fl with
    | ret u => exact I.after hq
    | next => exact hq.elim
    | brk => exact hq.elim
    | cont => exact hq.elim
/-- the callee runs -/
theorem fk_run {pins : List (Addr × Obj)} {σ : L2.St} {H : Hp} {s : Shared} {Q : VK} {us : List Value} {vs : List V} (F : Fk X.prog X.w X.K X.mg X.base CX k f fd ps sp) (hr : Room k X.A) (gd : X.A.guards = some []) (hb : Binds X.K fd ps ds) (hd : Vals dvs ds) (hx : Passes CX X E)
    (I : Inv X pins σ H s) (r : Vals vs us) (h : sp (vs ++ dvs) H Q E) : wpAny (model X.prog X.w) X.A (call (.ref f) us) (EP X pins σ Q) X.xe s := by
  refine wpAny_call (codeAny_mono (fk_code F hr gd hb hd hx I r h) fun res s2 hq => ?_)
  rcases res with er | fl
  · exact hq
  · cases fl with
    | ret u => exact hq
    | next => exact hq.elim
    | brk => exact hq.elim
    | cont => exact hq.elim
/-- .. with keywords -/
theorem fk_runK {ks : List Str} {g : List Value → List Value → List Value} {gV : List V → List V → List V} {pins : List (Addr × Obj)} {σ : L2.St} {H : Hp} {s : Shared} {Q : VK} {us ws : List Value} {vs zs : List V} (F : Fk X.prog X.w X.K X.mg X.base CX k f fd ps sp) (hr : Room k X.A) (gd : X.A.guards = some [])
    (hb : KBinds X.K fd ps ks g gV) (hx : Passes CX X E) (I : Inv X pins σ H s) (r : Vals vs us) (rz : Vals zs ws) (h : sp (gV vs zs) H Q E) : wpAny (model X.prog X.w) X.A (call (.ref f) us (ks.zip ws)) (EP X pins σ Q) X.xe s := by
  have rr := hb.rel r rz
  have ll : (g us ws).length = ps.length := rr.length.symm.trans (F.len _ _ _ _ h)
  refine wpAny_call (codeAny_mono (F.go X.A X.stack s H ⟨us, ks.zip ws⟩ (g us ws) (gV vs zs) Q E hr gd I.env0 (hb.to s us ws I.kIn ll) rr h) fun res s2 hq => ?_)
  rcases res with er | fl
  · exact hx pins σ H s er s2 I hq
  · cases fl with
    | ret u => exact I.after hq
    | next => exact hq.elim
    | brk => exact hq.elim
    | cont => exact hq.elim
end

section
variable {X : Cx} {CX : CXT} {k : Nat} {f C : Addr} {Cs : Addr → Prop} {sp : Sp} {E : XK} {x m : Str} {p pos apos : Pos} {e o fe : Expr} {es : List Expr} {H0 : Hp} {M : Addr → Prop} {L : LL} {σ : L2.St} {Q : V → LL → Prop}
/-- a promise, asked at what is known -/
def rs (H0 : Hp) (M : Addr → Prop) (sp : Sp) (E : XK) (xs : List V) (L : LL) (Q : V → LL → Prop) : Prop := ∀ H, Hs H0 M L H → sp xs H (up H0 M Q) E
theorem ke_call (D : DefT X.prog X.w X.K X.mg X.base CX k x sp) (hr : Room k X.A) (gd : X.A.guards = some []) (hx : Passes CX X E) (hg : Gl X x) (he : starEach (e :: es) X.env = (false, eval e X.env) :: starEach es X.env) (hpl : (backTo pos (starEach es X.env)).any (·.1) = false)
    (h : ka X H0 M (e :: es) σ L fun vs L1 => rs H0 M sp E vs L1 Q) (hdb : (x == ("__debug__" : Str)) = false := by decide) : ke X H0 M (.Call (.Name x p) (e :: es) [] pos) σ L Q := fun H z pins s I => by
  obtain ⟨f, fd, ps, F, hm, hk, hb⟩ := D.ex
  refine wpAny_Call_Name_kw (ld_glob I hg hm ?_ hdb)
  refine PySem.W.callWith_K (h₀ := X.base) I.ok.mod.kin hk (thn (h H z pos pins s I) fun us s1 ⟨vs, H1, I1, r, L1, z1, q⟩ => ⟨I1.kIn, ?_⟩) he hpl
  have q2 := q H1 z1
  rw [← List.append_nil vs] at q2
  exact fk_run F hr gd hb .nil hx I1 r q2
theorem ke_call0 (D : DefT X.prog X.w X.K X.mg X.base CX k x sp) (hr : Room k X.A) (gd : X.A.guards = some []) (hx : Passes CX X E) (hg : Gl X x)
    (h : rs H0 M sp E [] L Q) (hdb : (x == ("__debug__" : Str)) = false := by decide) : ke X H0 M (.Call (.Name x p) [] [] pos) σ L Q := fun H z pins s I => by
  obtain ⟨f, fd, ps, F, hm, hk, hb⟩ := D.ex
  refine wpAny_Call_Name_kw (ld_glob I hg hm ?_ hdb)
  exact PySem.W.callWith_K0 I.kIn hk (fk_run (us := []) (vs := []) F hr gd hb .nil hx I .nil (h H z))
/-- o.m(e, ..), the class of o one of the family -/
theorem ke_meth {pl : Sem Bool} (D : MethT X.prog X.w X.K X.mg X.base CX k Cs m sp) (hr : Room k X.A) (gd : X.A.guards = some []) (hx : Passes CX X E)
    (he : starEach (e :: es) X.env = (false, eval e X.env) :: starEach es X.env) (hpl : (backTo pos (starEach es X.env)).any (·.1) = false)
    (ht : eval (.Call (.Attribute o m apos) (e :: es) [] pos) X.env = (do
      let ov ← eval o X.env
      standAt apos.atName
      let (f, first) ← holding [ov] (getMethod ov m pl)
      callWith pos f first (backTo pos (starEach (e :: es) X.env)) (backToKw pos (keywordEach [] X.env))))
    (h : ke X H0 M o σ L fun y L1 => ∃ a C dx fs, y = .ref a ∧ At L1 a (.ins C dx fs) ∧ Cs C ∧ fs.lookup m = none ∧ ka X H0 M (e :: es) σ L1 fun vs L2 => rs H0 M sp E (.ref a :: vs) L2 Q) :
    ke X H0 M (.Call (.Attribute o m apos) (e :: es) [] pos) σ L Q := fun H z pins s I => by
  obtain ⟨f, fd, ps, F, hc, hb⟩ := D.ex
  refine PySem.W.methodCall_KW (pl := pl) (thn (h H z pins s I) fun u s1 ⟨y, H1, I1, ry, L1, z1, a, C, dx, fs, ey, ia, cC, nl, q⟩ => ?_) ht
  subst ey
  obtain rfl : u = Value.ref a := ry
  obtain ⟨c1, c2⟩ := hc C cC
  refine getmeth_ok I1 (z1.get ia) c1 c2 nl ?_
  refine PySem.W.callWith_K (first := [.ref a]) (h₀ := X.base) I.ok.mod.kin c2.kp (thn (q H1 z1 pos pins s1 I1) fun us s2 ⟨vs, H2, I2, r, L2, z2, q2⟩ => ⟨I2.kIn, ?_⟩) he hpl
  have q3 := q2 H2 z2
  rw [← List.append_nil (V.ref a :: vs)] at q3
  exact fk_run (us := .ref a :: us) (vs := .ref a :: vs) F hr gd hb .nil hx I2 (.cons rfl r) q3
theorem ke_meth0 {pl : Sem Bool} (D : MethT X.prog X.w X.K X.mg X.base CX k Cs m sp) (hr : Room k X.A) (gd : X.A.guards = some []) (hx : Passes CX X E)
    (ht : eval (.Call (.Attribute o m apos) [] [] pos) X.env = (do
      let ov ← eval o X.env
      standAt apos.atName
      let (f, first) ← holding [ov] (getMethod ov m pl)
      callWith pos f first (backTo pos (starEach [] X.env)) (backToKw pos (keywordEach [] X.env))))
    (h : ke X H0 M o σ L fun y L1 => ∃ a C dx fs, y = .ref a ∧ At L1 a (.ins C dx fs) ∧ Cs C ∧ fs.lookup m = none ∧ rs H0 M sp E [.ref a] L1 Q) :
    ke X H0 M (.Call (.Attribute o m apos) [] [] pos) σ L Q := fun H z pins s I => by
  obtain ⟨f, fd, ps, F, hc, hb⟩ := D.ex
  refine PySem.W.methodCall_KW (pl := pl) (thn (h H z pins s I) fun u s1 ⟨y, H1, I1, ry, L1, z1, a, C, dx, fs, ey, ia, cC, nl, q⟩ => ?_) ht
  subst ey
  obtain rfl : u = Value.ref a := ry
  obtain ⟨c1, c2⟩ := hc C cC
  refine getmeth_ok I1 (z1.get ia) c1 c2 nl ?_
  exact PySem.W.callWith_K0 (first := [.ref a]) I1.kIn c2.kp (fk_run (us := [.ref a]) (vs := [.ref a]) F hr gd hb .nil hx I1 (.cons rfl .nil) (q H1 z1))
/-- f(e, ..), f an instance of the family -/
theorem ke_callO (D : CallT X.prog X.w X.K X.mg X.base CX k Cs sp) (hr : Room k X.A) (gd : X.A.guards = some []) (hx : Passes CX X E)
    (ht : eval (.Call fe (e :: es) [] pos) X.env = (do callWith pos (← eval fe X.env) [] (backTo pos (starEach (e :: es) X.env)) (backToKw pos (keywordEach [] X.env))))
    (he : starEach (e :: es) X.env = (false, eval e X.env) :: starEach es X.env) (hpl : (backTo pos (starEach es X.env)).any (·.1) = false)
    (h : ke X H0 M fe σ L fun y L1 => ∃ a, y = .ref a ∧ ka X H0 M (e :: es) σ L1 fun vs L2 => (∃ C dx fs, At L2 a (.ins C dx fs) ∧ Cs C) ∧ rs H0 M sp E (.ref a :: vs) L2 Q) :
    ke X H0 M (.Call fe (e :: es) [] pos) σ L Q := fun H z pins s I => by
  obtain ⟨f, fd, ps, F, hc, hb⟩ := D.ex
  refine Call_ (thn (h H z pins s I) fun u s1 ⟨y, H1, I1, ry, L1, z1, a, ey, q⟩ => ?_) ht
  subst ey
  obtain rfl : u = Value.ref a := ry
  refine callO_with (thn (q H1 z1 pos pins s1 I1) fun us s2 ⟨vs, H2, I2, r, L2, z2, ⟨C, dx, fs, ia, cC⟩, q2⟩ => ?_) he hpl
  obtain ⟨ox, od, J, hd⟩ := insC_at I2 (.inr ⟨dx, fs, z2.get ia⟩)
  have c := hc C cC
  have q3 := q2 H2 z2
  rw [← List.append_nil (V.ref a :: vs)] at q3
  refine ⟨⟨C, ox, od, J, hd⟩, wpAny_call (PySem.W.kco_code I2.kIn J hd c.at_ c.fn c.fi (codeAny_mono (fk_code (us := .ref a :: us) (vs := .ref a :: vs) F hr gd hb .nil hx I2 (.cons rfl r) q3) fun res s3 hq => ?_))⟩
  rcases res with er | fl
  · exact hq
  · cases fl with
    | ret u => exact hq
    | next => exact hq.elim
    | brk => exact hq.elim
    | cont => exact hq.elim
/-- C(e, ..): a new instance, then __init__ -/
theorem ke_make (D : MakeT X.prog X.w X.K X.mg X.base CX k x C sp) (hr : Room (k + 1) X.A) (gd : X.A.guards = some []) (hx : Passes CX X E) (hg : Gl X x) (he : starEach (e :: es) X.env = (false, eval e X.env) :: starEach es X.env) (hpl : (backTo pos (starEach es X.env)).any (·.1) = false)
    (h : ka X H0 M (e :: es) σ L fun vs L1 => ∀ y dy, H0 y = none → H0 dy = none → rs H0 M sp E (.ref y :: vs) ((y, .ins C dy []) :: (dy, .own y) :: L1) fun v L2 => v = .non ∧ Q (.ref y) L2)
    (hdb : (x == ("__debug__" : Str)) = false := by decide) : ke X H0 M (.Call (.Name x p) (e :: es) [] pos) σ L Q := fun H z pins s I => by
  obtain ⟨f, fd, ps, F, hm, mk, hb⟩ := D.ex
  refine wpAny_Call_Name_kw (ld_glob I hg hm ?_ hdb)
  refine PySem.W.callWith_K (h₀ := X.base) I.ok.mod.kin mk.kp (thn (h H z pos pins s I) fun us s1 ⟨vs, H1, I1, r, L1, z1, q⟩ => ⟨I1.kIn, ?_⟩) he hpl
  have n1 : H1 (s1.heap.objs.size + 1) = none := I1.hok.fresh (Nat.le_succ _)
  have n0 : H1 s1.heap.objs.size = none := I1.hok.fresh (Nat.le_refl _)
  have z2 := (z1.new (o := .own (s1.heap.objs.size + 1)) n0).new (o := .ins C s1.heap.objs.size []) (p := s1.heap.objs.size + 1) (by rw [upd_ne (Nat.succ_ne_self _)]; exact n1)
  have q2 := q (s1.heap.objs.size + 1) s1.heap.objs.size (z1.fresh n1) (z1.fresh n0) _ z2
  have I2 := Inv.made (C := C) I1
  have rr : Vals (V.ref (s1.heap.objs.size + 1) :: vs) (Value.ref (s1.heap.objs.size + 1) :: us) := .cons rfl r
  have ll : ((Value.ref (s1.heap.objs.size + 1) :: us) ++ []).length = ps.length := by rw [List.append_nil]; exact rr.length.symm.trans (F.len _ _ _ _ q2)
  have bb := hb { s1 with heap := (s1.heap.push PySem.W.emptyDict).push (PySem.W.instObj C s1.heap.objs.size) } (Value.ref (s1.heap.objs.size + 1) :: us) I2.kIn ll
  rw [List.append_nil] at bb
  have gd2 : (X.A.under (.builtin "type.__call__" ⟨.ref C :: us, []⟩)).guards = some [] := by
    show pushGuards (Code.builtin "type.__call__" ⟨.ref C :: us, []⟩).guards X.A.guards = some []
    rw [gd]
    simp [Code.guards, Code.isGuard, guardIds, pushGuards]
  refine wpAny_call (make_map (f := f) I1.kIn mk.makes mk.init (beq_iff_eq.mp mk.fn) (codeAny_mono (F.go _ X.stack _ _ _ _ _ _ E (hr.make C us []) gd2 (I2.env0.make C us []) bb rr q2) fun res s2 hq => ?_))
  rcases res with er | fl
  · exact hx pins σ _ _ er s2 I2 hq
  · cases fl with
    | ret u =>
      obtain ⟨v, H', I3, rv, L3, z3, ev, q3⟩ := I2.after hq
      subst ev
      exact ⟨rv, ⟨V.ref (s1.heap.objs.size + 1), H', I3, rfl, L3, z3, q3⟩⟩
    | next => exact hq.elim
    | brk => exact hq.elim
    | cont => exact hq.elim
/-- e.f, a property -/
theorem ke_prop {f : Str} (D : PropT X.prog X.w X.K X.mg X.base CX k Cs f sp) (hr : Room (k + 1) X.A) (gd : X.A.guards = some []) (hx : Passes CX X.nox E) (hab : attributeBase e f X.env (eval e X.env) = eval e X.env)
    (h : ke X H0 M e σ L fun y L1 => ∃ a C dx fs, y = .ref a ∧ At L1 a (.ins C dx fs) ∧ Cs C ∧ rs H0 M sp E [.ref a] L1 Q) : ke X H0 M (.Attribute e f pos) σ L Q := fun H z pins s I => by
  obtain ⟨g, fd, ps, F, hc, hb⟩ := D.ex
  refine attr_of hab (thn (h H z pins s I) fun u s1 ⟨y, H1, I1, ry, L1, z1, a, C, dx, fs, ey, ia, cC, q⟩ => ?_)
  subst ey
  obtain rfl : u = Value.ref a := ry
  obtain ⟨c, p, hp⟩ := hc C cC
  obtain ⟨mA, O, _, _, _, _⟩ := ins_get I1.hok (z1.get ia)
  obtain ⟨od, J, _⟩ := O.look
  obtain ⟨rest, hrec⟩ := hp.rec_
  have I2 := I1.tok (s1.toks + 1)
  have q2 := q H1 z1
  have ll : ([Value.ref a] ++ []).length = ps.length := F.len _ _ _ _ q2
  have bb := hb { s1 with toks := s1.toks + 1 } [.ref a] I2.kIn ll
  rw [List.append_nil] at bb
  have hcl : (PySem.W.clsIn X.K C).isSome = true := by
    obtain ⟨cd, hcd, _⟩ := PySem.W.any_some c.hd
    rw [hcd]; rfl
  refine PySem.W.get_bind I1.kIn J (PySem.W.plainGet_of (c.get f)).1 (PySem.W.findObj_data hcl hp.at_ hp.get hp.tak) (PySem.W.plainGet_of (c.get f)).2 (wpAny_call (PySem.W.prop_get (s := { s1 with toks := s1.toks + 1 }) I1.kIn hrec ?_))
  refine codeAny_mono (F.go X.A.in1 X.stack { s1 with toks := s1.toks + 1 } H1 ⟨[.ref a], []⟩ [.ref a] [.ref a] _ E hr.in1 gd I2.env0.in1 bb (.cons rfl .nil) q2) fun res s2 hq => ?_
  rcases res with er | fl
  · exact (hx pins σ H1 { s1 with toks := s1.toks + 1 } er s2 (I2.wish _) hq).elim
  · cases fl with
    | ret u =>
      obtain ⟨v, H', I3, rv, q3⟩ := I2.after hq
      show wpAny _ _ (handedOut u) _ _ _
      rw [PySem.W.handedOut_of (handed_of rv)]
      exact wpAny_pure ⟨v, H', I3, rv, q3⟩
    | next => exact hq.elim
    | brk => exact hq.elim
    | cont => exact hq.elim
/-- e.f, an attribute of the instance -/
theorem ke_fld {f : Str} (hb : attributeBase e f X.env (eval e X.env) = eval e X.env) (h : ke X H0 M e σ L fun y L1 => ∃ a C dx fs v, y = .ref a ∧ At L1 a (.ins C dx fs) ∧ Cls X.K C ∧ NoAttr X.K C f ∧ fs.lookup f = some v ∧ Q v L1) : ke X H0 M (.Attribute e f pos) σ L Q := fun H z =>
  we_of (pe_fld pe_we hb) (we_mono (h H z) fun y H1 ⟨L1, z1, a, C, dx, fs, v, ey, ia, c, n, l, q⟩ => ⟨a, C, dx, fs, v, ey, z1.get ia, c, n, l, L1, z1, q⟩)
/-- e.f, a constant of the class -/
theorem ke_con {f : Str} (hb : attributeBase e f X.env (eval e X.env) = eval e X.env) (h : ke X H0 M e σ L fun y L1 => ∃ a C dx fs v u, y = .ref a ∧ At L1 a (.ins C dx fs) ∧ Cls X.K C ∧ Con X.K C f v u ∧ fs.lookup f = none ∧ Q v L1) : ke X H0 M (.Attribute e f pos) σ L Q := fun H z =>
  we_of (pe_con pe_we hb) (we_mono (h H z) fun y H1 ⟨L1, z1, a, C, dx, fs, v, u, ey, ia, c, n, l, q⟩ => ⟨a, C, dx, fs, v, u, ey, z1.get ia, c, n, l, L1, z1, q⟩)
/-- o.f = e -/
theorem ks_fld {f : Str} {pos' : Pos} {value : Expr} {nx : L2.St → LL → Prop} {rt : V → LL → Prop} {bk ct : L2.St → LL → Prop} (hs : swapsWith value (some (.Attribute o f pos')) pos.line X.env = pure false)
    (h : ke X H0 M value σ L fun v L1 => ke X H0 M o σ L1 fun y L2 => ∃ a C dx fs g, y = .ref a ∧ Spot L2 a (.ins C dx fs) g ∧ (H0 a = none ∨ M a) ∧ Cls X.K C ∧ NoAttr X.K C f ∧ fs.length < 1000 ∧ nx σ (g (.ins C dx (putF f v fs)))) : ks X H0 M (.Assign [.Attribute o f pos'] value pos) nx rt bk ct σ L :=
  ks_of (ps_fld pe_we pe_we hs) fun H z => we_mono (h H z) fun v H1 ⟨L1, z1, k⟩ => we_mono (k H1 z1) fun y H2 ⟨L2, z2, a, C, dx, fs, g, ey, sp, c, c1, n1, l, q⟩ => ⟨a, C, dx, fs, ey, z2.at_ _ sp.mem, c1, n1, l, _, z2.put sp c, q⟩
end

/-! ### the law's own call -/
theorem law_go {P : Program} {w : World} {K : PySem.W.Frag} {mg mb : Str → Option Value} {CX : CXT} {k : Nat} {fa a : Addr} {fd : FuncData} {x : Str} {sp : Sp} {s1 : Shared} {its : List Value} {ns : List Int}
    (KX : K.In s1.heap) (hns : s1.heap.Ns mainGlobals mg) (hblt : s1.heap.Ns builtinsNs mb) (hbb : ∀ x : Str, x ≠ "__name__" → mb x = bootBuiltins x) (nolim : s1.heap.NoLimit) (hg : s1.gens = #[])
    (ha : s1.heap.get? a = some { cls := .type "list", data := .seq its.toArray }) (hi : IntsAre its ns) (hl : ns.length ≤ sizeLine) (hr : Room k callerA)
    (F : ∀ base : Heap, K.In base → base.Ns mainGlobals mg → Fk P w K mg base CX k fa fd [x] sp) (bnd : ∀ (s : Shared) (u : Value), BindsTo s fd ⟨[u], []⟩ [(x, u)])
    (hsp : ∀ H : Hp, Only H → SqL K H a (ns.map V.int) → sp [.ref a] H (fun v _ => v = .bl true) fun _ _ _ => False)
    (hCX : ∀ H e s', CX [] H s1 (fun _ _ _ => False) e s' → False) :
    codeAny (model P w) callerA (.call (.ref fa) ⟨[.ref a], []⟩) (fun res s2 => res = .ok (.ret (.bool true)) ∧ OldK s1.heap s2.heap ∧ s2.os = s1.os ∧ AllBare s2.gens) s1 := by
  have rv := vals_ints hi
  have size := hi.length
  have main : ∀ H : Hp, Only H → SqL K H a (ns.map V.int) → HOk P w H s1.heap → (∀ b, H b ≠ none → b = a) → (H a ≠ none → K.lookup a = none) →
      codeAny (model P w) callerA (.call (.ref fa) ⟨[.ref a], []⟩) (fun res s2 => res = .ok (.ret (.bool true)) ∧ OldK s1.heap s2.heap ∧ s2.os = s1.os ∧ AllBare s2.gens) s1 := by
    intro H only sq ok onlyA notK
    have left : ∀ {b : Addr} {o : Obj}, s1.heap.get? b = some o → H b = none → (hidT s1.heap H).get? b = some o := fun e n => hidT_get e n
    have dictN : ∀ {b : Addr} {o : Obj} {es : Array DictEntry} {ep : Nat}, s1.heap.get? b = some o → o.data = .dict es ep → H b = none := fun {b o es ep} e d => by
      cases q : H b with
      | none => rfl
      | some u =>
        obtain rfl : b = a := onlyA b (by rw [q]; exact fun z => nomatch z)
        rw [ha] at e
        cases e
        exact absurd (show Data.seq its.toArray _ = Data.dict es ep from d) (fun z => nomatch z)
    have nsB : ∀ {b : Addr} {m : Str → Option Value}, s1.heap.Ns b m → (hidT s1.heap H).Ns b m := fun {b m} ⟨o, es, ep, e, d, r⟩ => ⟨o, es, ep, left e (dictN e d), d, r⟩
    have kB : K.In (hidT s1.heap H) := fun b o e => left (KX b o e) (by
      cases q : H b with
      | none => rfl
      | some u =>
        obtain rfl : b = a := onlyA b (by rw [q]; exact fun z => nomatch z)
        rw [notK (by rw [q]; exact fun z => nomatch z)] at e
        cases e)
    obtain ⟨mc, lim1, lim2⟩ := nolim
    have e0 : Env0 P w K mg (hidT s1.heap H) callerA [] s1 H := ⟨rfl, ⟨kB, nsB hns, ⟨mb, nsB hblt, hbb⟩, ⟨mc, nsB lim1, lim2⟩⟩, fun b o e => of_hidT e, Nat.le_of_eq (hidT_size _ _), trivial, fun b hb => (nomatch hb), ok, .of_eq hg⟩
    refine codeAny_mono ((F _ kB (nsB hns)).go callerA [] s1 H ⟨[.ref a], []⟩ [.ref a] [.ref a] _ _ hr rfl e0 (bnd s1 (.ref a)) (.cons rfl .nil) (hsp H only sq)) fun res s2 h => ?_
    rcases res with er | fl
    · exact (hCX H er s2 h).elim
    · cases fl with
      | next => exact h.elim
      | brk => exact h.elim
      | cont => exact h.elim
      | ret u =>
        obtain ⟨v, H2, os, bare, un, ok2, r2, q⟩ := h
        obtain rfl : v = .bl true := q
        obtain rfl : u = Value.bool true := r2
        refine ⟨rfl, OldK.of_keep fun b o e => ?_, os, bare⟩
        cases q : H b with
        | none => exact un.keep b o e q (fun z => nomatch z) (fun z => nomatch z)
        | some u =>
          rcases only b with z | ⟨ob, xs, z⟩
          · rw [q] at z; cases z
          · obtain ⟨e1, _⟩ := ok b _ z
            obtain ⟨e2, _⟩ := ok2 b _ (un.frzs b ob _ z)
            rw [e] at e1
            cases e1
            exact e2
  cases hk : K.lookup a with
  | some o =>
    have e := KX a o hk
    rw [ha] at e
    cases e
    exact main (fun _ => none) (fun _ => .inl rfl) (.inr ⟨_, its.toArray, _, hk, rfl, rfl, rfl, (by rw [List.size_toArray, size]; exact hl), (by simpa using rv)⟩) (fun b u z => nomatch (show (none : Option HO) = some u from z)) (fun b z => absurd rfl z) fun z => absurd rfl z
  | none =>
    let H : Hp := fun b => if b = a then some (.frz { cls := .type "list", data := .seq its.toArray } (.lst (ns.map V.int))) else none
    have at_ : H a = some (.frz { cls := .type "list", data := .seq its.toArray } (.lst (ns.map V.int))) := if_pos rfl
    have off : ∀ b, b ≠ a → H b = none := fun b hb => if_neg hb
    refine main H (fun b => ?_) (.inl (.inr ⟨_, at_⟩)) (fun b u z => ?_) (fun b z => ?_) fun _ => hk
    · by_cases hb : b = a
      · subst hb; exact .inr ⟨_, _, at_⟩
      · exact .inl (off b hb)
    · by_cases hb : b = a
      · subst hb
        rw [at_] at z
        cases z
        exact ⟨ha, by rw [List.length_map]; exact hl, its, _, rv, ha⟩
      · rw [off b hb] at z; cases z
    · exact Classical.byContradiction fun hb => z (off b hb)

theorem law_walk {l : PySem.W.OpenLaw} {n k : Nat} {q : Program} {loose : List Str} {XP : (Str → Option Value) → Heap → Prop} {YP : World → Heap → Prop} {d : DefRec} {K : Params → PySem.W.Frag} {CX : World → CXT} {sp : World → Sp} {x : Str}
    (hn : l.most = some n) (hn2 : n ≤ sizeLine) (hdf : d.params.defaults = []) (hr : Room k callerA)
    (hY : ∀ (w : World) (h : Heap), YP w h → (K w.params).In h)
    (F : ∀ (w : World) (mg : Str → Option Value) (fa : Addr) (h : Heap), (K w.params).In h → h.Ns mainGlobals mg → mg d.name = some (.ref fa) →
      ∃ fd : FuncData, (∀ (s : Shared) (u : Value), BindsTo s fd ⟨[u], []⟩ [(x, u)]) ∧
        ∀ base : Heap, (K w.params).In base → base.Ns mainGlobals mg → Fk l.prog w (K w.params) mg base (CX w) k fa fd [x] (sp w))
    (hsp : ∀ (w : World) (H : Hp) (a : Addr) (ns : List Int), ns.length ≤ n → SqL (K w.params) H a (ns.map V.int) → sp w [.ref a] H (fun v _ => v = .bl true) fun _ _ _ => False)
    (hCX : ∀ (w : World) (H : Hp) (s : Shared) (e : Value) (s' : Shared), CX w [] H s (fun _ _ _ => False) e s' → False) :
    PySem.W.WalkO q loose XP YP l.row.toRowW d [] (fun f vs => PySem.call f vs) := by
  refine Att.attach_call hn hdf fun w s₀ s₁ mg mb fa o pm cd doc a vs ns G Y ho hd hcd hmg hobj hints hlen hg => ?_
  obtain ⟨fd, bnd, FF⟩ := F w mg fa _ (hY w _ Y) G.T.g hmg
  exact law_go (hY w _ Y) G.T.g G.T.b G.T.builtins G.T.nolimit hg hobj hints (Nat.le_trans hlen hn2) hr FF bnd (fun H _ sq => hsp w H a ns hlen sq) fun H e s' => hCX w H s₁ e s'
end Xi

/-! ## More -/
namespace Xi
open PySem PySem.Spec PyProof.Rows L2

theorem wg_mono {X : Cx} {tg : Expr} {v : V} {σ : L2.St} {H : Hp} {P P' : L2.St → Hp → Prop} (h : wg X tg v σ H P) (k : ∀ σ H, P σ H → P' σ H) : wg X tg v σ H P' := fun pins s u I r => thn (h pins s u I r) fun _ _ ⟨σ', H', I', q⟩ => ⟨σ', H', I', k _ _ q⟩
def wi (X : Cx) (tg iter : Expr) : TI := fun σ H R => ∀ (pins : List (Addr × Obj)) (s : Shared), Inv X pins σ H s → wpAny (model X.prog X.w) X.A (eval iter X.env) (fun v s1 => wpAny (model X.prog X.w) X.A (pyIter v) (PIE X pins σ tg R) X.xe s1) X.xe s
theorem pi_wi {X : Cx} {tg iter : Expr} : PI X tg iter (wi X tg iter) := ⟨fun pins s _ _ _ I h => h pins s I⟩
theorem wi_of {X : Cx} {tg iter : Expr} {t : TI} {σ : L2.St} {H : Hp} {R : It → Hp → Prop} (p : PI X tg iter t) (h : t σ H R) : wi X tg iter σ H R := fun pins s I => p.run pins s σ H R I h
theorem wi_mono {X : Cx} {tg iter : Expr} {σ : L2.St} {H : Hp} {R R' : It → Hp → Prop} (h : wi X tg iter σ H R) (k : ∀ J H, R J H → R' J H) : wi X tg iter σ H R' := fun pins s I =>
  thn (h pins s I) fun v s1 h1 => thn h1 fun itv s2 ⟨it, fp, tn, J, H', e, I2, T, st, f, q⟩ => ⟨it, fp, tn, J, H', e, I2, T, st, f, k _ _ q⟩
def upI (H0 : Hp) (M : Addr → Prop) (P : It → LL → Prop) : It → Hp → Prop := fun J H => ∃ L, Hs H0 M L H ∧ P J L
def ki (X : Cx) (H0 : Hp) (M : Addr → Prop) (tg iter : Expr) (σ : L2.St) (L : LL) (P : It → LL → Prop) : Prop := ∀ H, Hs H0 M L H → wi X tg iter σ H (upI H0 M P)
/-- what a walk gives, while G is known -/
structure WalkL (H0 : Hp) (M : Addr → Prop) (J : It) (n : Nat) (G : LL → Prop) (Y : Nat → LL → V → LL → Prop) : Prop where
  goes : ∀ i L H, i < n → G L → Hs H0 M L H → J.go i H
  stops : ∀ L H, G L → Hs H0 M L H → J.stop n H
  yields : ∀ i L H x H', i < n → G L → Hs H0 M L H → J.yld i H x H' → ∃ L', Hs H0 M L' H' ∧ Y i L x L'
/-- a walk of n turns: its source's facts G, what it gives Y -/
def Walks (H0 : Hp) (M : Addr → Prop) (n : Nat) (G : LL → Prop) (Y : Nat → LL → V → LL → Prop) (J : It) : Prop := WalkL H0 M J n G Y

section
variable {X : Cx} {H0 : Hp} {M : Addr → Prop} {e a b c o : Expr} {es : List Expr} {σ : L2.St} {L L' : LL} {Q : V → LL → Prop} {QT : Bool → LL → Prop} {QA : List V → LL → Prop} {pos pos' p apos : Pos} {ss rest body : List Stmt} {nx : L2.St → LL → Prop} {rt : V → LL → Prop} {bk ct : L2.St → LL → Prop} {st : Stmt} {x y z v : V} {tg iter : Expr}
/-! ### loops -/
theorem ks_for (hp : PassesOwn (model X.prog X.w) X.A X.env X.xe) (hc : X.calm = true) (hf : ∀ x, foldedSetIterable iter X.env x = pure x)
    (h : ki X H0 M tg iter σ L fun J L1 => ∃ (n : Nat) (G : LL → Prop) (Y : Nat → LL → V → LL → Prop) (I : Nat → L2.St → LL → Prop), Walks H0 M n G Y J ∧ I 0 σ L1 ∧ (∀ i σ L, i ≤ n → I i σ L → G L) ∧
      (∀ i x σ L L', i < n → I i σ L → Y i L x L' → kg X H0 M tg x σ L' fun σ2 L2 => kb X H0 M body (I (i + 1)) rt nx (I (i + 1)) σ2 L2) ∧ ∀ σ L, I n σ L → nx σ L) :
    ks X H0 M (.For tg iter body [] pos) nx rt bk ct σ L := ks_of (ps_for hp hc pi_wi pg_wg pb_wb hf) fun H z => wi_mono (h H z) fun J H1 ⟨L1, z1, n, G, Y, I, w, i0, ig, st, en⟩ => by
  refine ⟨fun i m σ H => m = n - i ∧ i ≤ n ∧ ∃ L, Hs H0 M L H ∧ I i σ L, ⟨n, rfl, Nat.zero_le n, L1, z1, i0⟩, ?_⟩
  rintro i m σ H ⟨em, hi, L, zL, iv⟩
  by_cases lt : i < n
  · refine .inr ⟨w.goes i L H lt (ig i σ L hi iv) zL, upS H0 M (I (i + 1)), fun σ' H' ⟨L', z', iv'⟩ => ⟨n - (i + 1), by omega, rfl, lt, L', z', iv'⟩, fun x H' yl => ?_⟩
    obtain ⟨L', z', y⟩ := w.yields i L H x H' lt (ig i σ L hi iv) zL yl
    exact wg_mono (fun pins s u J r => st i x σ L L' lt iv y H' z' pins s u J r) fun σ2 H2 ⟨L2, z2, k⟩ => k H2 z2
  · have : i = n := by omega
    subst this
    exact .inl ⟨w.stops L H (ig i σ L hi iv) zL, L, zL, en σ L iv⟩
theorem ks_while {W : Nat → L2.St → LL → Prop} (hp : PassesOwn (model X.prog X.w) X.A X.env X.xe) (m0 : Nat) (h0 : W m0 σ L)
    (h : ∀ m σ L, W m σ L → kt X H0 M c σ L fun k L1 => PickB k (kb X H0 M body (fun σ' L' => ∃ m', m' < m ∧ W m' σ' L') rt nx (fun σ' L' => ∃ m', m' < m ∧ W m' σ' L') σ L1) (nx σ L1)) :
    ks X H0 M (.While c body [] pos) nx rt bk ct σ L := ks_of (ps_while hp pt_wt pb_wb) fun H z => by
  refine ⟨fun m σ H => upS H0 M (W m) σ H, ⟨m0, L, z, h0⟩, fun m σ H ⟨L, z, w⟩ => wt_mono (h m σ L w H z) fun k H1 ⟨L1, z1, k1, k2⟩ => ?_⟩
  cases k with
  | true => exact iteT ⟨upS H0 M (fun σ' L' => ∃ m', m' < m ∧ W m' σ' L'), fun σ' H' ⟨L', z', m', lt, w'⟩ => ⟨m', lt, L', z', w'⟩, k1 rfl H1 z1⟩
  | false => exact iteF ⟨L1, z1, k2 rfl⟩
/-! ### what is walked -/
/-- a list, a tuple as it stands in L -/
theorem ki_list {P : It → LL → Prop} (h : ke X H0 M iter σ L fun v L1 => ∃ a xs, v = .ref a ∧ At L1 a (.lst xs) ∧ ∀ J, Walks H0 M xs.length (fun L => At L a (.lst xs)) (fun i L x L' => L' = L ∧ xs[i]? = some x) J → P J L1) : ki X H0 M tg iter σ L P := fun H z =>
  wi_of (pi_list pe_we) (we_mono (h H z) fun v H1 ⟨L1, z1, a, xs, ev, ia, k⟩ => ⟨a, ev, ⟨xs, z1.sq ia⟩, L1, z1, k _ ⟨fun i L H hi g z => walk_list.goes i H hi (z.sq g), fun L H g z => walk_list.stops H (z.sq g), fun i L H x H' hi g z y => by
    obtain ⟨e, y2⟩ := walk_list.yields i H x H' hi (z.sq g) y
    subst e
    exact ⟨L, z, rfl, y2⟩⟩⟩)
theorem ki_tup {P : It → LL → Prop} (h : ke X H0 M iter σ L fun v L1 => ∃ a xs, v = .ref a ∧ At L1 a (.tup xs) ∧ ∀ J, Walks H0 M xs.length (fun L => At L a (.tup xs)) (fun i L x L' => L' = L ∧ xs[i]? = some x) J → P J L1) : ki X H0 M tg iter σ L P := fun H z =>
  wi_of (pi_tup pe_we) (we_mono (h H z) fun v H1 ⟨L1, z1, a, xs, ev, ia, k⟩ => ⟨a, ev, ⟨xs, z1.st ia⟩, L1, z1, k _ ⟨fun i L H hi g z => walk_tup.goes i H hi (z.st g), fun L H g z => walk_tup.stops H (z.st g), fun i L H x H' hi g z y => by
    obtain ⟨e, y2⟩ := walk_tup.yields i H x H' hi (z.st g) y
    subst e
    exact ⟨L, z, rfl, y2⟩⟩⟩)
theorem ki_range1 {P : It → LL → Prop} (hg : Gl X "range") (hm : X.mg "range" = none) (hs : starEach [a] X.env = [(false, eval a X.env)])
    (h : ke X H0 M a σ L fun v L1 => ∃ j : Int, v = .int j ∧ j < 2 ^ 62 ∧ -(2 ^ 62) ≤ j ∧ ∀ J, Walks H0 M j.toNat (fun _ => True) (fun i L x L' => L' = L ∧ x = .int i) J → P J L1) : ki X H0 M tg (.Call (.Name "range" p) [a] [] pos) σ L P := fun H z =>
  wi_of (pi_range1 hg hm (pa_cons pe_we pa_nil hs) hs) (we_mono (h H z) fun v H1 ⟨L1, z1, j, ev, l2, l1, k⟩ => ⟨j, by rw [ev], l1, l2, L1, z1, k _ ⟨fun i L H hi _ z => walk_range.goes i H hi trivial, fun L H g z => walk_range.stops H trivial, fun i L H x H' hi g z y => by
    obtain ⟨e, y2⟩ := walk_range.yields i H x H' hi trivial y
    subst e
    exact ⟨L, z, rfl, y2.trans (congrArg V.int (Int.zero_add _))⟩⟩⟩)
theorem ki_range2 {P : It → LL → Prop} (hg : Gl X "range") (hm : X.mg "range" = none) (hs : starEach [a, b] X.env = [(false, eval a X.env), (false, eval b X.env)]) (hs2 : starEach [b] X.env = [(false, eval b X.env)])
    (h : ke X H0 M a σ L fun v L1 => ke X H0 M b σ L1 fun w L2 => ∃ i j : Int, v = .int i ∧ w = .int j ∧ (-(2 ^ 62) ≤ i ∧ i < 2 ^ 62 ∧ -(2 ^ 62) ≤ j ∧ j < 2 ^ 62) ∧ ∀ J, Walks H0 M (j - i).toNat (fun _ => True) (fun t L x L' => L' = L ∧ x = .int (i + t)) J → P J L2) : ki X H0 M tg (.Call (.Name "range" p) [a, b] [] pos) σ L P := fun H z =>
  wi_of (pi_range2 hg hm (pa_cons pe_we (pa_cons pe_we pa_nil hs2) (by rw [hs, hs2])) hs hs2) (we_mono (h H z) fun v H1 ⟨L1, z1, k⟩ => we_mono (k H1 z1) fun w H2 ⟨L2, z2, i, j, ev, ew, bd, k⟩ => ⟨i, j, by rw [ev, ew], bd, L2, z2, k _ ⟨fun i L H hi _ z => walk_range.goes i H hi trivial, fun L H g z => walk_range.stops H trivial, fun t L H x H' hi g z y => by
    obtain ⟨e, y2⟩ := walk_range.yields t H x H' hi trivial y
    subst e
    exact ⟨L, z, rfl, y2⟩⟩⟩)
theorem ki_enum {elts : List Expr} {kk : Nat} {tpos : Pos} {P : It → LL → Prop} (hg : Gl X "enumerate") (hm : X.mg "enumerate" = none) (hs : starEach [e] X.env = [(false, eval e X.env)])
    (h : ke X H0 M e σ L fun v L1 => ∃ a xs, v = .ref a ∧ At L1 a (.lst xs) ∧ ∀ J, Walks H0 M xs.length (fun L => At L a (.lst xs)) (fun i L x L' => ∃ T y, x = .ref T ∧ H0 T = none ∧ xs[i]? = some y ∧ L' = (T, .tup [.int i, y]) :: L) J → P J L1) :
    ki X H0 M (.Tuple elts kk tpos) (.Call (.Name "enumerate" p) [e] [] pos) σ L P := fun H z =>
  wi_of (pi_enum hg hm (pa_cons pe_we pa_nil hs) hs) (we_mono (h H z) fun v H1 ⟨L1, z1, a, xs, ev, ia, k⟩ => ⟨a, xs, by rw [ev], z1.sq ia, L1, z1, k _ ⟨fun i L H hi g z => walk_enum.goes i H hi (z.sq g), fun L H g z => walk_enum.stops H (z.sq g), fun i L H x H' hi g z y => by
    obtain ⟨T, u, w, h1, h2, h3, h4, h5⟩ := walk_enum.yields i H x H' hi (z.sq g) y
    cases h4
    subst h1 h3
    exact ⟨_, z.new h2, T, w, rfl, z.fresh h2, h5, rfl⟩⟩⟩)
theorem ki_zip {elts : List Expr} {kk : Nat} {tpos : Pos} {P : It → LL → Prop} (hg : Gl X "zip") (hm : X.mg "zip" = none) (hs : starEach [a, b] X.env = [(false, eval a X.env), (false, eval b X.env)]) (hs2 : starEach [b] X.env = [(false, eval b X.env)]) (hpl : (backTo pos (starEach [b] X.env)).any (·.1) = false)
    (h : ke X H0 M a σ L fun v L1 => ke X H0 M b σ L1 fun w L2 => ∃ a b xs ys, v = .ref a ∧ w = .ref b ∧ At L2 a (.lst xs) ∧ At L2 b (.lst ys) ∧ ∀ J, Walks H0 M (min xs.length ys.length) (fun L => At L a (.lst xs) ∧ At L b (.lst ys))
      (fun i L x L' => ∃ T u y, x = .ref T ∧ H0 T = none ∧ xs[i]? = some u ∧ ys[i]? = some y ∧ L' = (T, .tup [u, y]) :: L) J → P J L2) :
    ki X H0 M (.Tuple elts kk tpos) (.Call (.Name "zip" p) [a, b] [] pos) σ L P := fun H z =>
  wi_of (pi_zip hg hm (pa_cons pe_we (pa_cons pe_we pa_nil hs2) (by rw [hs, hs2])) (by rw [hs, hs2]) hpl) (we_mono (h H z) fun v H1 ⟨L1, z1, k⟩ => we_mono (k H1 z1) fun w H2 ⟨L2, z2, a, b, xs, ys, ev, ew, ia, ib, k⟩ => ⟨a, b, xs, ys, by rw [ev, ew], z2.sq ia, z2.sq ib, L2, z2, k _ ⟨
    fun i L H hi g z => (walk_zip rfl).goes i H hi ⟨z.sq g.1, z.sq g.2⟩, fun L H g z => (walk_zip rfl).stops H ⟨z.sq g.1, z.sq g.2⟩, fun i L H x H' hi g z y => by
    obtain ⟨T, u, w, h1, h2, h3, h4, h5⟩ := (walk_zip rfl).yields i H x H' hi ⟨z.sq g.1, z.sq g.2⟩ y
    subst h1 h3
    exact ⟨_, z.new h2, T, u, w, rfl, z.fresh h2, h4, h5, rfl⟩⟩⟩)
/-! ### targets of more names -/
def wgs (X : Cx) (ts : List Expr) : TGs := fun vs σ H Q => ∀ (pins : List (Addr × Obj)) (s : Shared) (us : List Value), Inv X pins σ H s → Vals vs us → wpAny (model X.prog X.w) X.A (assignInOrder ((assignEach ts X.env).map (·.2)) us) (fun _ s' => ∃ σ' H', Inv X pins σ' H' s' ∧ Q σ' H') X.xe s
theorem pgs_wgs {ts : List Expr} : PGs X ts (wgs X ts) := ⟨fun pins s _ _ _ us _ I r h => h pins s us I r⟩
theorem wgs_mono {ts : List Expr} {vs : List V} {H : Hp} {P P' : L2.St → Hp → Prop} (h : wgs X ts vs σ H P) (k : ∀ σ H, P σ H → P' σ H) : wgs X ts vs σ H P' := fun pins s u I r => thn (h pins s u I r) fun _ _ ⟨σ', H', I', q⟩ => ⟨σ', H', I', k _ _ q⟩
def kgs (X : Cx) (H0 : Hp) (M : Addr → Prop) (ts : List Expr) (vs : List V) (σ : L2.St) (L : LL) (P : L2.St → LL → Prop) : Prop := ∀ H, Hs H0 M L H → wgs X ts vs σ H (upS H0 M P)
theorem kgs_nil {P : L2.St → LL → Prop} (h : P σ L) : kgs X H0 M [] [] σ L P := fun H z pins s us I r => pgs_nil.run pins s σ H [] us _ I r ⟨rfl, L, z, h⟩
theorem kgs_cons {t : Expr} {ts : List Expr} {vs : List V} {P : L2.St → LL → Prop} (hs : (assignEach (t :: ts) X.env).map (·.2) = assign t X.env :: (assignEach ts X.env).map (·.2)) (h : kg X H0 M t v σ L fun σ2 L2 => kgs X H0 M ts vs σ2 L2 P) :
    kgs X H0 M (t :: ts) (v :: vs) σ L P := fun H z pins s us I r => (pgs_cons pg_wg pgs_wgs hs).run pins s σ H (v :: vs) us _ I r ⟨v, vs, rfl, wg_mono (fun pins s u I r => h H z pins s u I r) fun σ2 H2 ⟨L2, z2, q⟩ => q H2 z2⟩
theorem kg_unl {ts : List Expr} {k : Nat} {n : Nat} {a : Addr} {xs : List V} {P : L2.St → LL → Prop} (hc : X.calm = true) (hn : (assignEach ts X.env).length = n) (hst : (assignEach ts X.env).findIdx? (·.1) = none)
    (ia : At L a (.lst xs)) (hl : xs.length = n) (h : kgs X H0 M ts xs σ L P) : kg X H0 M (.Tuple ts k pos) (.ref a) σ L P := kg_of (pg_unl hc pgs_wgs hn hst) fun H z => ⟨a, xs, rfl, z.sq ia, hl, h H z⟩
theorem kg_tup {ts : List Expr} {k : Nat} {n : Nat} {a : Addr} {xs : List V} {P : L2.St → LL → Prop} (hc : X.calm = true) (hn : (assignEach ts X.env).length = n) (hst : (assignEach ts X.env).findIdx? (·.1) = none)
    (ia : At L a (.tup xs)) (hl : xs.length = n) (h : kgs X H0 M ts xs σ L P) : kg X H0 M (.Tuple ts k pos) (.ref a) σ L P := kg_of (pg_tup hc pgs_wgs hn hst) fun H z => ⟨a, xs, rfl, z.st ia, hl, h H z⟩
/-- o[i] = v -/
theorem kg_sub {P : L2.St → LL → Prop} (ha : ∀ v, assign (.Subscript o e pos) X.env v = (do
      let ov ← holding [v] (eval o X.env)
      let iv ← holding [v, ov] (eval e X.env)
      standAt pos
      holding [v, ov, iv] (setItem ov iv v)
      release [v, ov, iv] []))
    (h : ke X H0 M o σ L fun x L1 => ke X H0 M e σ L1 fun y L2 => ∃ p xs i j g, x = .ref p ∧ y = .int i ∧ Spot L2 p (.lst xs) g ∧ (H0 p = none ∨ M p) ∧ ixN xs.length i = some j ∧ P σ (g (.lst (xs.set j v)))) : kg X H0 M (.Subscript o e pos) v σ L P :=
  kg_of (pg_sub pe_we pe_we set_list ha) fun H z => we_mono (h H z) fun x H1 ⟨L1, z1, k⟩ => we_mono (k H1 z1) fun y H2 ⟨L2, z2, p, xs, i, j, g, ex, ey, sp, c, hj, q⟩ => ⟨p, xs, i, j, ex, ey, z2.at_ _ sp.mem, hj, _, z2.put sp c, q⟩
/-! ### subscripts, slices -/
def Ix (K : PySem.W.Frag) (H0 : Hp) (M : Addr → Prop) (x y : V) (L : LL) (Q : V → LL → Prop) : Prop :=
  (∃ p xs i v, x = .ref p ∧ y = .int i ∧ (At L p (.lst xs) ∨ (SqL K H0 p xs ∧ ¬ M p)) ∧ atI xs i = some v ∧ Q v L) ∨ (∃ p xs i v, x = .ref p ∧ y = .int i ∧ At L p (.tup xs) ∧ atI xs i = some v ∧ Q v L) ∨
    (∃ z i c, x = .str z ∧ y = .int i ∧ z.length ≤ sizeLine ∧ atI z.cps.toList i = some c ∧ Q (.str ⟨#[c]⟩) L)
theorem ke_ix (hs : PlainIx b) (h : ke X H0 M a σ L fun x L1 => ke X H0 M b σ L1 fun y L2 => Ix X.K H0 M x y L2 Q) : ke X H0 M (.Subscript a b pos) σ L Q := fun H z =>
  we_of (pe_ix ix_seq pe_we pe_we hs) (we_mono (h H z) fun x H1 ⟨L1, z1, k⟩ => we_mono (k H1 z1) fun y H2 ⟨L2, z2, k2⟩ => by
    rcases k2 with ⟨p, xs, i, v, ex, ey, ia, hv, q⟩ | ⟨p, xs, i, v, ex, ey, ia, hv, q⟩ | ⟨w, i, c, ex, ey, hl, hv, q⟩
    · exact .inl ⟨p, xs, i, v, ex, ey, ia.elim (fun ia => z2.sq ia) (fun r => z2.seq r.1 r.2), hv, L2, z2, q⟩
    · exact .inr (.inl ⟨p, xs, i, v, ex, ey, z2.st ia, hv, L2, z2, q⟩)
    · exact .inr (.inr ⟨w, i, c, ex, ey, hl, hv, L2, z2, q⟩))
theorem ix_lst {K : PySem.W.Frag} {p : Addr} {xs : List V} {i : Int} (ia : At L p (.lst xs)) (hv : atI xs i = some v) (h : Q v L) : Ix K H0 M (.ref p) (.int i) L Q := .inl ⟨p, xs, i, v, rfl, rfl, .inl ia, hv, h⟩
theorem ix_scr {K : PySem.W.Frag} {p : Addr} {xs : List V} {i : Int} (r : SqL K H0 p xs) (m : ¬ M p) (hv : atI xs i = some v) (h : Q v L) : Ix K H0 M (.ref p) (.int i) L Q := .inl ⟨p, xs, i, v, rfl, rfl, .inr ⟨r, m⟩, hv, h⟩
theorem ix_tp {K : PySem.W.Frag} {p : Addr} {xs : List V} {i : Int} (ia : At L p (.tup xs)) (hv : atI xs i = some v) (h : Q v L) : Ix K H0 M (.ref p) (.int i) L Q := .inr (.inl ⟨p, xs, i, v, rfl, rfl, ia, hv, h⟩)
theorem ix_k {K : PySem.W.Frag} {p : Addr} {i : Int} (h : Aq L p fun o => (∃ xs, o = .lst xs ∧ ∃ v, atI xs i = some v ∧ Q v L) ∨ (∃ xs, o = .tup xs ∧ ∃ v, atI xs i = some v ∧ Q v L)) : Ix K H0 M (.ref p) (.int i) L Q := by
  obtain ⟨o, ia, ⟨xs, rfl, v, hv, q⟩ | ⟨xs, rfl, v, hv, q⟩⟩ := h
  · exact ix_lst ia hv q
  · exact ix_tp ia hv q
/-- .. the form of the store -/
theorem sub_k {P : LL → Prop} {p : Addr} {i : Int} (c : H0 p = none ∨ M p) (h : Sq L p fun o g => ∃ xs, o = .lst xs ∧ ∃ j, ixN xs.length i = some j ∧ P (g (.lst (xs.set j v)))) :
    ∃ p' xs i' j g, V.ref p = .ref p' ∧ V.int i = .int i' ∧ Spot L p' (.lst xs) g ∧ (H0 p' = none ∨ M p') ∧ ixN xs.length i' = some j ∧ P (g (.lst (xs.set j v))) := by
  obtain ⟨o, g, sp, xs, rfl, j, hj, q⟩ := h
  exact ⟨p, xs, i, j, g, rfl, rfl, sp, c, hj, q⟩
/-- a part of a slice -/
def ko (X : Cx) (H0 : Hp) (M : Addr → Prop) (e : Option Expr) (σ : L2.St) (L : LL) (Q : Option Int → LL → Prop) : Prop := match e with
  | none => Q none L
  | some e => ke X H0 M e σ L fun x L1 => ∃ i, x = .int i ∧ Q (some i) L1
def wopt (X : Cx) (e : Option Expr) : TO := match e with
  | none => tNoPart
  | some e => tPart (we X e)
theorem po_wopt : ∀ {e : Option Expr}, PO X e (wopt X e)
  | none => po_none
  | some _ => po_some pe_we
theorem ko_up {H : Hp} {Q : Option Int → LL → Prop} {Q' : Option Int → Hp → Prop} (z : Hs H0 M L H) : ∀ {e : Option Expr}, ko X H0 M e σ L Q → (∀ i L1 H1, Hs H0 M L1 H1 → Q i L1 → Q' i H1) → wopt X e σ H Q'
  | none, h, k => k none L H z h
  | some _, h, k => we_mono (h H z) fun x H1 ⟨L1, z1, i, ex, q⟩ => ⟨i, ex, k _ L1 H1 z1 q⟩
/-- xs[lo:hi], a list: a new one -/
theorem ke_sl {lo hi : Option Expr} {p2 : Pos} (h : ke X H0 M e σ L fun x L1 => ko X H0 M lo σ L1 fun l L2 => ko X H0 M hi σ L2 fun u L3 => ∃ p xs, x = .ref p ∧ (At L3 p (.lst xs) ∨ (SqL X.K H0 p xs ∧ ¬ M p)) ∧ New H0 (.lst (cutV xs l u)) L3 Q) :
    ke X H0 M (.Subscript e (.Slice lo hi none p2) pos) σ L Q := fun H z =>
  we_of (pe_slice sl_list pe_we po_wopt po_wopt) (we_mono (h H z) fun x H1 ⟨L1, z1, k⟩ => ko_up z1 k fun l L2 H2 z2 k2 => ko_up z2 k2 fun u L3 H3 z3 ⟨p, xs, ex, ia, k3⟩ =>
    ⟨p, xs, ex, ia.elim (fun ia => z3.sq ia) (fun r => z3.seq r.1 r.2), new_up z3 k3⟩)
/-! ### built-ins by name -/
def wc (X : Cx) (f : Value) : List V → Hp → VK → Prop := fun xs H Q => ∀ (pins : List (Addr × Obj)) (s : Shared) (σ : L2.St) (us : List Value), Inv X pins σ H s → Vals xs us → wpAny (model X.prog X.w) X.A (call f us) (EP X pins σ Q) X.xe s
theorem call_wc {f : Value} : CallR X f (wc X f) := fun pins s σ H xs us Q I r h => h pins s σ us I r
def rc (X : Cx) (H0 : Hp) (M : Addr → Prop) (f : Value) (xs : List V) (L : LL) (Q : V → LL → Prop) : Prop := ∀ H, Hs H0 M L H → wc X f xs H (up H0 M Q)
theorem rc_of {f : Value} {r : List V → Hp → VK → Prop} {xs : List V} (ho : CallR X f r) (h : ∀ H, Hs H0 M L H → r xs H (up H0 M Q)) : rc X H0 M f xs L Q := fun H z pins s σ us I rv => ho pins s σ H xs us _ I rv (h H z)
theorem ke_callB {x : Str} {id : String} (hg : Gl X x) (hm : X.mg x = none) (hv : bootBuiltins x = some (.builtin id)) (he : starEach (e :: es) X.env = (false, eval e X.env) :: starEach es X.env) (hpl : (backTo pos (starEach es X.env)).any (·.1) = false)
    (h : ka X H0 M (e :: es) σ L fun vs L1 => rc X H0 M (.builtin id) vs L1 Q) (hn : x ≠ "__name__" := by decide) (hdb : (x == ("__debug__" : Str)) = false := by decide) : ke X H0 M (.Call (.Name x p) (e :: es) [] pos) σ L Q := fun H z =>
  we_of (pe_callB call_wc hg hm hv pa_wa hn hdb he hpl) (wa_mono (h H z) fun vs H1 ⟨L1, z1, k⟩ => k H1 z1)
theorem ke_callY {x : Str} {T : String} (hg : Gl X x) (hm : X.mg x = none) (hv : bootBuiltins x = some (.type T)) (he : starEach (e :: es) X.env = (false, eval e X.env) :: starEach es X.env) (hpl : (backTo pos (starEach es X.env)).any (·.1) = false)
    (h : ka X H0 M (e :: es) σ L fun vs L1 => rc X H0 M (.type T) vs L1 Q) (hn : x ≠ "__name__" := by decide) (hdb : (x == ("__debug__" : Str)) = false := by decide) : ke X H0 M (.Call (.Name x p) (e :: es) [] pos) σ L Q := fun H z =>
  we_of (pe_callTy call_wc hg hm hv pa_wa hn hdb he hpl) (wa_mono (h H z) fun vs H1 ⟨L1, z1, k⟩ => k H1 z1)
theorem rc_lenL {q : Addr} {xs : List V} (ia : At L q (.lst xs)) (h : Q (.int xs.length) L) : rc X H0 M (.builtin "len") [.ref q] L Q := rc_of call_len_seq fun H z => ⟨q, xs, rfl, .inl (z.sq ia), L, z, h⟩
theorem rc_lenT {q : Addr} {xs : List V} (ia : At L q (.tup xs)) (h : Q (.int xs.length) L) : rc X H0 M (.builtin "len") [.ref q] L Q := rc_of call_len_seq fun H z => ⟨q, xs, rfl, .inr (z.st ia), L, z, h⟩
theorem rc_lenR {q : Addr} {xs : List V} (r : SqL X.K H0 q xs) (m : ¬ M q) (h : Q (.int xs.length) L) : rc X H0 M (.builtin "len") [.ref q] L Q := rc_of call_len_seq fun H z => ⟨q, xs, rfl, .inl (z.seq r m), L, z, h⟩
theorem rc_abs {i : Int} (h : Q (.int (if i < 0 then -i else i)) L) : rc X H0 M (.builtin "abs") [.int i] L Q := rc_of call_abs fun H z => ⟨i, rfl, L, z, h⟩
theorem rc_max2 {i j : Int} (hc : X.calm = true) (h : Q (.int (if j > i then j else i)) L) : rc X H0 M (.builtin "max") [.int i, .int j] L Q := rc_of (call_max2 hc) fun H z => ⟨i, j, rfl, L, z, h⟩
theorem rc_min2 {i j : Int} (hc : X.calm = true) (h : Q (.int (if j < i then j else i)) L) : rc X H0 M (.builtin "min") [.int i, .int j] L Q := rc_of (call_min2 hc) fun H z => ⟨i, j, rfl, L, z, h⟩
theorem rc_intI {i : Int} (h : Q (.int i) L) : rc X H0 M (.type "int") [.int i] L Q := rc_of call_int1 fun H z => .inl ⟨i, rfl, L, z, h⟩
theorem rc_intB {k : Bool} (h : Q (.int (if k then 1 else 0)) L) : rc X H0 M (.type "int") [.bl k] L Q := rc_of call_int1 fun H z => .inr ⟨k, rfl, L, z, h⟩
theorem rc_strI {i : Int} (hb : i.natAbs.log2 < 1920) (h : Q (.str (toString i)) L) : rc X H0 M (.type "str") [.int i] L Q := rc_of call_str_int fun H z => ⟨i, rfl, hb, L, z, h⟩
theorem rc_list {q : Addr} {xs : List V} (ia : At L q (.lst xs)) (h : New H0 (.lst xs) L Q) : rc X H0 M (.type "list") [.ref q] L Q := rc_of call_list_of fun H z => ⟨q, xs, rfl, .inl (z.sq ia), new_up z h⟩
theorem rc_listT {q : Addr} {xs : List V} (ia : At L q (.tup xs)) (h : New H0 (.lst xs) L Q) : rc X H0 M (.type "list") [.ref q] L Q := rc_of call_list_of fun H z => ⟨q, xs, rfl, .inr (z.st ia), new_up z h⟩
theorem rc_tuple {q : Addr} {xs : List V} (ia : At L q (.lst xs)) (h : New H0 (.tup xs) L Q) : rc X H0 M (.type "tuple") [.ref q] L Q := rc_of call_tuple_of fun H z => ⟨q, xs, rfl, .inl ⟨z.sq ia, new_up z h⟩⟩
/-- x.bit_length() -/
theorem ke_bits (hbase : attributeBase o "bit_length" X.env (eval o X.env) = eval o X.env) (hline : (apos.endLine == pos.line) = true) (h : ke X H0 M o σ L fun x L1 => ∃ i, x = .int i ∧ Q (.int (Builtin.Int.intBits i : Nat)) L1) :
    ke X H0 M (.Call (.Attribute o "bit_length" apos) [] [] pos) σ L Q := fun H z => we_of (pe_bits pe_we hbase hline) (we_mono (h H z) fun x H1 ⟨L1, z1, i, ex, q⟩ => ⟨i, ex, L1, z1, q⟩)
/-- xs.append(e) -/
theorem ke_app (hbase : attributeBase o "append" X.env (eval o X.env) = eval o X.env) (hfew : ((backTo pos (starEach [e] X.env)).all (fun x => !x.1) && (backToKw pos (keywordEach [] X.env)).all (fun x => x.1.isSome)
      && decide (([e] : List Expr).length + ([] : List Keyword).length + (if ([] : List Keyword).isEmpty then 0 else 1) < 30)) = true) (hline : (apos.endLine == pos.line) = true) (hs : starEach [e] X.env = (false, eval e X.env) :: starEach [] X.env) (hpl : (backTo pos (starEach [] X.env)).any (·.1) = false)
    (h : ke X H0 M o σ L fun x L1 => ∃ q ys, x = .ref q ∧ At L1 q (.lst ys) ∧ ke X H0 M e σ L1 fun v L2 => ∃ xs g, Spot L2 q (.lst xs) g ∧ (H0 q = none ∨ M q) ∧ xs.length < sizeLine ∧ Q .non (g (.lst (xs ++ [v])))) :
    ke X H0 M (.Call (.Attribute o "append" apos) [e] [] pos) σ L Q := fun H z =>
  we_of (pe_bm PySem.F.plainAttrs_list PySem.F.slot_list_append PySem.F.type_list_append mt_append pe_we (pa_cons pe_we pa_nil hs) hbase hfew hline hs hpl)
    (we_mono (h H z) fun x H1 ⟨L1, z1, q, ys, ex, ia, k⟩ => by
      subst ex
      exact ⟨.inl ⟨rfl, ys, z1.sq ia⟩, we_mono (k H1 z1) fun v H2 ⟨L2, z2, xs, g, sp, c, hl, r⟩ => ⟨q, xs, v, rfl, rfl, z2.at_ _ sp.mem, hl, _, z2.put sp c, r⟩⟩)
end
end Xi

/-! ## Super -/
/-! A def whose body is super().m(e, ..) alone. -/
namespace Xi
open PySem PySem.Spec PyProof.Rows L2 StX

theorem rev_lookup : ∀ {ps : List Str} {us : List Value} {i : Nat} {x : Str} {u : Value}, ps.Nodup → ps[i]? = some x → us[i]? = some u → (ps.zip us).reverse.lookup x = some u := by
  intro ps us
  have key : ∀ (ps : List Str) (us : List Value) (i : Nat) (x : Str) (u : Value), ps.Nodup → ps[i]? = some x → us[i]? = some u → (x, u) ∈ ps.zip us ∧ ∀ w, (x, w) ∈ ps.zip us → w = u := by
    intro ps
    induction ps with
    | nil => intro us i x u _ h; simp at h
    | cons p ps ih =>
      intro us i x u nd h1 h2
      cases us with
      | nil => simp at h2
      | cons w us =>
        cases i with
        | zero =>
          simp at h1 h2
          subst h1 h2
          refine ⟨List.mem_cons_self, fun z hz => ?_⟩
          rcases List.mem_cons.mp hz with e | hz
          · exact (Prod.mk.inj e).2
          · exact absurd (List.of_mem_zip hz).1 (List.nodup_cons.mp nd).1
        | succ i =>
          simp at h1 h2
          obtain ⟨a, b⟩ := ih us i x u (List.nodup_cons.mp nd).2 h1 h2
          refine ⟨List.mem_cons_of_mem _ a, fun z hz => ?_⟩
          rcases List.mem_cons.mp hz with e | hz
          · have : x = p := (Prod.mk.inj e).1
            subst this
            exact absurd (List.mem_of_getElem? h1) (List.nodup_cons.mp nd).1
          · exact b z hz
  intro i x u nd h1 h2
  obtain ⟨a, b⟩ := key ps us i x u nd h1 h2
  have pick : ∀ (l : List (Str × Value)), (x, u) ∈ l → (∀ w, (x, w) ∈ l → w = u) → l.lookup x = some u := by
    intro l
    induction l with
    | nil => intro h; exact absurd h (by simp)
    | cons p r ih =>
      intro h1 h2
      obtain ⟨y, w⟩ := p
      by_cases e : x = y
      · subst e
        have := h2 w List.mem_cons_self
        subst this
        simp
      · have ne : (x == y) = false := by simpa using e
        rw [List.lookup_cons, ne]
        refine ih ((List.mem_cons.mp h1).resolve_left fun z => e (Prod.mk.inj z).1) fun w hw => h2 w (List.mem_cons_of_mem _ hw)
  exact pick _ (List.mem_reverse.mpr a) fun w hw => b w (List.mem_reverse.mp hw)

/-- the context of such a body -/
def cxSup (P : Program) (w : World) (K : PySem.W.Frag) (mg : Str → Option Value) (base : Heap) (N : List Str) (qual : Str) (scope : Scope) (f cda cc : Addr) (A : Around) (out : List Env) (s : Shared) (H : Hp) : Cx where
  prog := P
  w := w
  K := K
  mg := mg
  base := base
  A := A.deeper (PySem.W.ksEnv qual scope s.heap.objs.size f (.ref cda) cc)
  N := N
  s_0 := s
  H_0 := H
  env := PySem.W.ksEnv qual scope s.heap.objs.size f (.ref cda) cc
  outer := out
  stack := PySem.W.ksEnv qual scope s.heap.objs.size f (.ref cda) cc :: out
  ex := []
  fn := fun _ => false
  calm := true
  pn := []
  xe := fun _ _ => False
structure SupOk (K : PySem.W.Frag) (P : Program) (qual : Str) (scope : Scope) (ps : List Str) (f2 cda cc D : Addr) (m : Str) : Prop where
  code : ∃ c1 d1 vs sl1 file tf, K.lookup cda = some ⟨c1, d1, .fields vs, sl1⟩ ∧ vs[2]? = some (.str file tf) ∧ ((P.main.file : Str) == file) = true
  cell : ∃ c2 d2 sl2, K.lookup cc = some ⟨c2, d2, .cell (some (.ref D)), sl2⟩
  cls : ∃ cd, PySem.W.clsIn K D = some cd
  sub : PySem.W.mroIn K D (.ref D) = some true
  find : PySem.W.ks_superIn K D D m = some (some (.ref f2))
  fn2 : PySem.W.typeIn K (.ref f2) = some (.type "function")
  fi2 : PySem.W.fnIn K f2 = true
  third : PySem.W.nsIn K PySem.cStatics "thirdparty.any" = some none
  kind : scope.kind = .function
  co : scope.isCoroutine = false
  gen : scope.isGenerator = false
  nocell : ∀ y ∈ scope.names, y.2 ≠ .cell
  free : ∀ y ∈ scope.names, y.2 = .free → y.1 = ("__class__" : Str)
  su : scope.names.lookup ("super" : Str) = some .globalImplicit
  cl : scope.names.lookup ("__class__" : Str) = some .free
  par : ∀ x ∈ ps, scope.names.lookup x = some .local
  nd : ps.Nodup
  top : (P.main.scope.names.lookup ("super" : Str)).isSome = false
  nm : (m == ("__class__" : Str)) = false

theorem fk_super {P : Program} {w : World} {K : PySem.W.Frag} {mg : Str → Option Value} {base : Heap} {k j : Nat} {f f2 cda cc D : Addr} {name qual m : Str} {params : Arguments} {scope : Scope} {dV kV doc pm ct oc : Value} {an od : Option Addr} {osl : Array (Option Value)}
    {ps ps2 : List Str} {x0 : Str} {ar : Arg} {fd2 : FuncData} {sp sp2 : Sp} {e : Expr} {es : List Expr} {p0 p1 p2 p3 p4 : Pos} {body : List Stmt}
    (lk : K.lookup f = some ⟨oc, od, .func (PySem.W.ksFn name qual params body scope dV kV doc pm an (.ref cda) ct cc), osl⟩) (hcd : PySem.W.codeIn K (.ref cda) qual = true)
    (eb : body = [.Expr (.Call (.Attribute (.Call (.Name "super" p0) [] [] p1) m p2) (e :: es) [] p3) p4])
    (O : SupOk K P qual scope ps f2 cda cc D m) (hms : mg "super" = none) (har : (params.posonlyargs ++ params.args).head? = some ar) (h0 : ps[0]? = some ar.arg)
    (F2 : Fk P w K mg base CX0 j f2 fd2 ps2 sp2) (b2 : Binds K fd2 ps2 []) (hj : j ≤ k)
    (len : ∀ vs H Q E, sp vs H Q E → vs.length = ps.length)
    (he : ∀ env, starEach (e :: es) env = (false, eval e env) :: starEach es env) (hpl : ∀ env, (backTo p3 (starEach es env)).any (·.1) = false)
    (ht : ∀ env, ∃ pl : Sem Bool, eval (.Call (.Attribute (.Call (.Name "super" p0) [] [] p1) m p2) (e :: es) [] p3) env = (do
      let ov ← attributeBase (.Call (.Name "super" p0) [] [] p1) m env (eval (.Call (.Name "super" p0) [] [] p1) env)
      standAt p2.atName
      let (f, first) ← holding [ov] (getMethod ov m pl)
      callWith p3 f first (backTo p3 (starEach (e :: es) env)) []))
    (hsw : ∀ env, swapsWith (.Call (.Attribute (.Call (.Name "super" p0) [] [] p1) m p2) (e :: es) [] p3) none p4.line env = pure false)
    (hb : ∀ (X : Cx), X.N = ps → X.env.scope = scope → ∀ (H : Hp) (vs : List V) (Q : VK) (E : XK), sp vs H Q E → ∃ a dx fs, vs[0]? = some (.ref a) ∧ H a = some (.ins D dx fs) ∧ wa X (e :: es) (vs.map some) H fun us H2 => sp2 (.ref a :: us) H2 (fun _ H3 => Q .non H3) E0) :
    Fk P w K mg base CX0 (k + 1) f (PySem.W.ksFn name qual params body scope dV kV doc pm an (.ref cda) ct cc) ps sp := by
  refine ⟨len, fun A out s H ag us vs Q E room gd e0 bnd rv q => ?_⟩
  have KX : K.In s.heap := e0.mod.kin.keeps fun b o e => (e0.bs b o e).1
  have nolim : s.heap.NoLimit := e0.mod.nolimit.keeps fun b o e => (e0.bs b o e).1
  have hl : vs.length = ps.length := len _ _ _ _ q
  have hlu : us.length = ps.length := rv.length.symm.trans hl
  refine PySem.ks_codeAny_call_defAt (fd := PySem.W.ksFn name qual params body scope dV kV doc pm an (.ref cda) ct cc) (body := body) (binds := ps.zip us) room.depth (KX f _ lk) rfl nolim (PySem.W.codeRec_of KX hcd) rfl bnd O.nocell (fun y hy => O.par y.1 (List.of_mem_zip hy).1) (fun h1 ns1 keep1 => ?_) O.co O.gen O.kind
  obtain ⟨c2, d2, sl2, kcell⟩ := O.cell
  obtain ⟨c1, d1, cvs, sl1, file, tf, kcode, hvs, hfile⟩ := O.code
  obtain ⟨cdD, hcls⟩ := O.cls
  let X := cxSup P w K mg base ps qual scope f cda cc A out s H
  have incc : ∀ x c, X.env.cells.lookup x = some c → x = ("__class__" : Str) ∧ c = cc := fun x c h => by
    have h' : List.lookup x [(("__class__" : Str), cc)] = some c := h
    rw [List.lookup_cons] at h'
    by_cases z : x = ("__class__" : Str)
    · subst z
      rw [beq_self_eq_true] at h'
      exact ⟨rfl, (Option.some.inj h').symm⟩
    · rw [show (x == ("__class__" : Str)) = false by simpa using z] at h'
      cases h'
  have ok : X.Ok := by
    refine ⟨e0.mod, O.kind, rfl, rfl, Nat.le_refl _, fun y z c a b => ((incc y c a).1).trans ((incc z c b).1).symm, fun y hy => ?_, fun y c z => (nomatch z), fun _ => room.hd, Around.frames_deeper e0.frames, .inr ⟨rfl, rfl⟩, fun b z => (nomatch z), e0.bs, e0.bsz, fun b _ _ z => (nomatch z), fun b z => (nomatch z), e0.funs, e0.frf⟩
    have hy' : scope.names.lookup y = some .cell ∨ scope.names.lookup y = some .free := hy
    rcases hy' with z | z
    · exact absurd rfl (O.nocell _ (PySem.mem_of_lookup z))
    · have : y = ("__class__" : Str) := O.free _ (PySem.mem_of_lookup z) rfl
      subst this
      exact ⟨cc, by show List.lookup _ [(("__class__" : Str), cc)] = some cc; simp⟩
  have bcell := e0.mod.kin cc _ kcell
  have I : Inv X [] (vs.map some) H { s with heap := h1, toks := s.toks + (ps.zip us).length } := by
    refine ⟨ok, rfl, e0.bare, Un.kept keep1, ⟨_, ns1, fun i y v a b c => ?_⟩, fun x c h => ?_, e0.hok.fresh (Nat.le_refl _), fun x c h => ?_, fun p hp => absurd (show p ∈ ([] : List (Addr × Obj)) from hp) (by simp), e0.hok.kept keep1, ?_⟩
    · have hv : vs[i]? = some v := by
        rw [List.getElem?_map] at b
        cases z : vs[i]? with
        | none => rw [z] at b; cases b
        | some a => rw [z] at b; cases b; rfl
      obtain ⟨u, hu, ru⟩ := rv.get hv
      exact ⟨u, ru, .inl ⟨O.par y (List.mem_of_getElem? a), rev_lookup O.nd a hu⟩⟩
    · obtain ⟨rfl, rfl⟩ := incc x c h
      exact ⟨_, _, keep1 _ _ (e0.bs _ _ bcell).1, rfl⟩
    · obtain ⟨rfl, rfl⟩ := incc x c h
      exact (e0.bs _ _ bcell).2
    · show (vs.map some).length = ps.length
      rw [List.length_map]; exact hl
  have gd2 : X.A.guards = some [] := gd
  have room2 : Room k X.A := room.deeper _
  obtain ⟨a, dx, fs, hv0, ha, hargs⟩ := hb X rfl rfl H vs Q E q
  -- execs [super().m(..)]
  rw [eb]
  have quiet : interactive X.env = false := I.quiet
  obtain ⟨pl, hte⟩ := ht X.env
  refine PySem.ks_wpAt_execs_cons (PySem.ks_wpAt_Expr_any (PySem.ks_wpAt_MethodCall (pl := pl) ?_ hte) quiet (hsw _))
  obtain ⟨mA, OM, _, _, _, _⟩ := ins_get I.hok ha
  obtain ⟨odx, J, _⟩ := OM.look
  have KI := I.kIn
  obtain ⟨m1, nsL, hm1⟩ := I.loc
  have kfind : ∀ x, X.env.kindOf x = scope.names.lookup x := fun _ => rfl
  refine PySem.ks_wpAt_super_base (env := X.env) (f := f) (cc := cda) O.su O.cl O.nm rfl (KI _ _ lk) rfl har rfl (KI _ _ kcode) rfl hvs hfile O.top ?_
  -- super, __class__, self
  obtain ⟨mb, hb1, hb2⟩ := I.mod.blt
  have ns1' := ns1
  refine PySem.W.ks_loadName_global O.kind O.su (Calls.loadGlobal_builtin (env := X.env) (I.mod.glob.keeps I.bk) hms (hb1.keeps I.bk) ((hb2 _ (by decide)).trans (by decide +kernel : bootBuiltins ("super" : Str) = some (.type "super"))) ⟨rfl, ?_⟩)
  refine wpAny_loadName_free O.kind O.cl (by show List.lookup _ [(("__class__" : Str), cc)] = some cc; simp) ⟨_, keep1 _ _ (e0.bs _ _ bcell).1, rfl⟩ ?_
  obtain ⟨u0, hu0, ru0⟩ := rv.get hv0
  obtain rfl : u0 = Value.ref a := ru0
  refine wpAny_loadName_local O.kind (O.par _ (List.mem_of_getElem? h0)) ns1 (rev_lookup O.nd h0 hu0) ?_
  -- the super object
  obtain ⟨oD, hoD, hoDc⟩ : ∃ oD, h1.get? D = some oD ∧ oD.data = .cls cdD := by
    unfold PySem.W.clsIn at hcls
    split at hcls
    · rename_i c d cd' sl ho
      cases hcls
      exact ⟨_, KI _ _ ho, rfl⟩
    · cases hcls
  refine PySem.ks_wpAny_isType_cls hoD hoDc ⟨rfl, ?_⟩
  have noC : ∀ c, (PySem.W.instObj D dx).data ≠ .cls c := fun c z => by cases z
  refine PySem.ks_wpAny_call_super hoD hoDc J.at_ J.cls (fun c z => ?_) (PySem.W.looks_mroIn KI O.sub) (fun h2 hso keep2 => ?_)
  · have := J.no
    unfold PySem.W.notCls at this
    rw [z] at this
    exact Bool.noConfusion this
  have I2 := ClX.pin_new (t' := s.toks + (ps.zip us).length) I keep2 (Nat.le_refl _) hso (fun v z => by cases z)
  have K2 := I2.kIn
  have hfind : PySem.W.alongIn K m ((cdD.mro.dropWhile (· != .ref D)).drop 1) = some (some (.ref f2)) := by
    have z := O.find
    unfold PySem.W.ks_superIn at z
    rw [hcls] at z
    exact z
  obtain ⟨of, hof, hofc⟩ : ∃ of, h2.get? f2 = some of ∧ of.cls = .type "function" := by
    have z : (K.lookup f2).map (·.cls) = some (.type "function") := O.fn2
    cases y : K.lookup f2 with
    | none => rw [y] at z; cases z
    | some of => rw [y] at z; exact ⟨of, K2 _ _ y, Option.some.inj z⟩
  have neD : a ≠ D := by
    rintro rfl
    rw [J.at_] at hoD
    cases hoD
    exact Data.noConfusion hoDc
  refine PySem.ks_wpAny_getMethod_super (C := D) (D := D) (f := f2) (x := a) hso (PySem.W.looks_opaque K2 O.third) (l₀ := cdD.mro) (fun A' Q' E' s' kk qq => wpAny_bind ((PySem.W.looks_clsIn K2 hcls) A' _ E' s' kk (wpAny_pure qq))) rfl K2 hfind hof hofc neD O.nm ?_
  have I3 := ClX.pin_new (s := { s with heap := h2, toks := s.toks + (ps.zip us).length }) (h' := h2.push { cls := .type "method", data := .fields #[.ref f2, .ref a] }) (a := h2.objs.size) (t' := s.toks + (ps.zip us).length + 1) I2 (fun b u z => Heap.get?_push_of_some _ z) (Nat.le_refl _) (Heap.get?_push_at rfl rfl) (fun v z => by cases z)
  -- the call of the bound method
  show wpAny (model X.prog X.w) X.A (callWith p3 (.ref h2.objs.size) [] (backTo p3 (starEach (e :: es) X.env)) []) _ _ _
  have args := hargs p3 _ _ I3
  rw [he] at args ⊢
  refine PySem.W.callWith_of (P := PySem.W.MethP K h2.objs.size f2 (.ref a)) (by show ((false || (backTo p3 (starEach es X.env)).any (·.1)) || false) = false; rw [hpl]; rfl) (PySem.W.keeps_M O.fi2) (Calls.evalArgs_plain (wpAny_mono args (fun ws s4 ⟨zs, H4, I4, r4, q4⟩ => ?_) fun _ _ z => False.elim z))
  refine ⟨⟨ClX.pin_at I4, I4.kIn⟩, wpAny_call (PySem.ks_codeAny_call_bound (ClX.pin_at I4) ?_)⟩
  have q5 : sp2 ((V.ref a :: zs) ++ []) H4 (fun _ H3 => Q .non H3) E0 := by rw [List.append_nil]; exact q4
  have F3 : Fk X.prog X.w X.K X.mg X.base CX0 j f2 fd2 ps2 sp2 := F2
  refine codeAny_mono (fk_code (X := X) (us := .ref a :: ws) (vs := V.ref a :: zs) (ds := []) (dvs := []) F3 (room2.mono hj) gd2 b2 .nil pass0 I4 (.cons rfl r4) q5) fun res s5 hq => ?_
  rcases res with er | fl
  · exact hq.elim
  · cases fl with
    | ret u =>
      obtain ⟨v, H5, I5, r5, q6⟩ := hq
      refine PySem.wpAt_of_wpAny (wpAny_execs_nil ?_)
      exact ⟨.non, H5, I5.os, I5.bare, I5.base, I5.hok, rfl, q6⟩
    | next => exact hq.elim
    | brk => exact hq.elim
    | cont => exact hq.elim
end Xi

/-! ## Repr -/
/-! repr of lists and tuples of flat things, nested ones. -/
namespace Xi
open PySem PySem.Spec PyProof.Rows L2

theorem app_len (a b : Str) : (a ++ b).length = a.length + b.length := by first | exact Str.length_append a b | simp
theorem textFrom_le {B : Nat} : ∀ (ts : List Str) (k : Nat) (acc : Str), (∀ t ∈ ts, t.length ≤ B) → (textFrom k acc ts).length ≤ acc.length + ts.length * (B + 2)
  | [], _, acc, _ => by show acc.length ≤ _; simp
  | t :: r, k, acc, h => by
    have ih := textFrom_le r (k + 1) (acc ++ (if k > 0 then ", " else "" : String) ++ t) fun x hx => h x (List.mem_cons_of_mem _ hx)
    have ht := h t List.mem_cons_self
    show (textFrom (k + 1) (acc ++ (if k > 0 then ", " else "" : String) ++ t) r).length ≤ _
    have e : (acc ++ (if k > 0 then ", " else "" : String) ++ t : Str).length ≤ acc.length + 2 + B := by
      rw [app_len, app_len]
      have : ((if k > 0 then ", " else "" : String) : Str).length ≤ 2 := by
        by_cases z : k > 0
        · rw [if_pos z]; decide +kernel
        · rw [if_neg z]; decide +kernel
      omega
    rw [List.length_cons, Nat.succ_mul]
    omega
theorem shownAll_mem {B : Nat} : ∀ {ds : List PyData}, (∀ d ∈ ds, d.shown.length ≤ B) → ∀ t ∈ PyData.shownAll ds, t.length ≤ B
  | [], _, t, h => by simp [PyData.shownAll] at h
  | d :: ds, h, t, ht => by
    simp only [PyData.shownAll] at ht
    rcases List.mem_cons.mp ht with e | ht
    · rw [e]; exact h d List.mem_cons_self
    · exact shownAll_mem (fun x hx => h x (List.mem_cons_of_mem _ hx)) t ht
theorem shownAll_len : ∀ (ds : List PyData), (PyData.shownAll ds).length = ds.length
  | [] => rfl
  | d :: ds => by simp only [PyData.shownAll, List.length_cons, shownAll_len ds]
theorem list_le {ds : List PyData} {B n : Nat} (h : ∀ d ∈ ds, d.shown.length ≤ B) (hn : ds.length ≤ n) : (PyData.list ds).shown.length ≤ n * (B + 2) + 2 := by
  show (listText (PyData.shownAll ds)).length ≤ _
  unfold listText
  rw [app_len]
  have t := textFrom_le (PyData.shownAll ds) 0 "[" (shownAll_mem h)
  rw [shownAll_len] at t
  have e1 : (("[" : String) : Str).length = 1 := by decide +kernel
  have e2 : (("]" : String) : Str).length = 1 := by decide +kernel
  have m := Nat.mul_le_mul_right (B + 2) hn
  rw [e1] at t
  rw [e2]
  omega
theorem join_le {B : Nat} : ∀ (ts : List Str), (∀ t ∈ ts, t.length ≤ B) → (Str.join ", " ts).length ≤ ts.length * (B + 2)
  | [], _ => by have : (Str.join ", " []).length = 0 := by decide +kernel
                omega
  | x :: r, h => by
    have p := join_length_add (x :: r) (by simp)
    have q : ∀ (l : List Str), (∀ t ∈ l, t.length ≤ B) → piled l ≤ l.length * (B + 2) := by
      intro l
      induction l with
      | nil => intro _; simp [piled]
      | cons a l ih =>
        intro hl
        have h1 := hl a List.mem_cons_self
        have h2 := ih fun t ht => hl t (List.mem_cons_of_mem _ ht)
        simp only [piled, List.length_cons, Nat.succ_mul]
        simp [piled] at h2 ⊢
        omega
    have := q (x :: r) h
    omega
theorem tuple_le {ds : List PyData} {B n : Nat} (h : ∀ d ∈ ds, d.shown.length ≤ B) (hn : ds.length ≤ n) : (PyData.tuple ds).shown.length ≤ n * (B + 2) + 3 := by
  show (tupleText (PyData.shownAll ds)).length ≤ _
  unfold tupleText
  rw [app_len, app_len]
  have t := join_le (PyData.shownAll ds) (shownAll_mem h)
  rw [shownAll_len] at t
  have e1 : (("(" : String) : Str).length = 1 := by decide +kernel
  have e2 : ((if (PyData.shownAll ds).length == 1 then ",)" else ")" : String) : Str).length ≤ 2 := by
    cases ((PyData.shownAll ds).length == 1) <;> decide +kernel
  have m := Nat.mul_le_mul_right (B + 2) hn
  omega
theorem int_le {i : Int} (h : i.natAbs.log2 < 1920) : (PyData.int i).shown.length ≤ 1921 := by
  have := int_text_len_1921 h
  simpa [PyData.shown] using this

section
variable {X : Cx} {H0 : Hp} {M : Addr → Prop} {L : LL} {Q : V → LL → Prop} {k : Nat}
/-- repr(x), x a list or a tuple -/
theorem call_reprD (hr : Room k X.A) (gd : X.A.guards = some []) : CallR X (.builtin "repr") (fun xs H Q => ∃ p d, xs = [.ref p] ∧ Dp X.K H (.ref p) d ∧ d.showable = true ∧ d.hasDict = false ∧ d.depth ≤ 60 ∧ d.shown.length ≤ sizeLine ∧ Q (.str d.shown) H) := by
  intro pins s σ H xs us Q I r h
  obtain ⟨p, d, rfl, dp, sh, nd, dh, sz, q⟩ := h
  obtain ⟨u, rfl, ru⟩ : ∃ u, us = [u] ∧ RelV (.ref p) u := by
    cases r with
    | cons a b => cases b; exact ⟨_, rfl, a⟩
  obtain ⟨as, rd⟩ := Dp.reads I d _ u dp ru
  obtain rfl : u = Value.ref p := ru
  refine repr_of_reads' rd sh (fun z => by rw [nd] at z; cases z) gd (by have := hr.un; omega) (fun _ _ z => z) (fun h' u tk kp => ?_) sz
  exact ⟨.str d.shown, H, I.kept kp, ⟨u, rfl⟩, q⟩
theorem rc_repr {p : Addr} {d : PyData} (hr : Room k X.A) (gd : X.A.guards = some []) (dp : ∀ H, Hs H0 M L H → Dp X.K H (.ref p) d) (sh : d.showable = true) (nd : d.hasDict = false) (dh : d.depth ≤ 60) (sz : d.shown.length ≤ sizeLine) (h : Q (.str d.shown) L) :
    rc X H0 M (.builtin "repr") [.ref p] L Q := rc_of (call_reprD hr gd) fun H z => ⟨p, d, rfl, dp H z, sh, nd, dh, sz, L, z, h⟩
end
end Xi

/-! ## Ret -/
/-! How promises end: what a def leaves. -/
namespace Xi
open PySem PySem.Spec PyProof.Rows L2

/-- v comes out; N new objects, all else stands -/
def RetP (H : Hp) (Q : VK) (v : V) (N : LL) : Prop := ∀ H', Ext H H' → News H H' N → Q v H'
/-- v comes out; at a stands o', N new objects, all else stands -/
def RetC (H : Hp) (Q : VK) (v : V) (a : Addr) (o' : HO) (N : LL) : Prop := ∀ H', Chg H H' a o' N → Q v H'
section
variable {H0 H H' : Hp} {M : Addr → Prop} {L L' N : LL} {Q : V → LL → Prop} {v : V} {a p q : Addr} {o o' u : HO} {g : HO → LL}
/-- the caller goes on -/
theorem Hs.pp (h : Hs H0 M L H) (k : Q v (N ++ L)) : RetP H (up H0 M Q) v N := fun _ e n => ⟨_, h.more e n, k⟩
theorem Hs.cc (h : Hs H0 M L H) (s : Spot L a o g) (c : H0 a = none ∨ M a) (k : Q v (N ++ g o')) : RetC H (up H0 M Q) v a o' N := fun _ x => ⟨_, h.chg s c x, k⟩
theorem Hs.p0 (h : Hs H0 M L H) (k : Q v L) : RetP H (up H0 M Q) v [] := fun _ e n => ⟨_, h.ext e, k⟩
theorem Hs.c0 (h : Hs H0 M L H) (s : Spot L a o g) (c : H0 a = none ∨ M a) (k : Q v (g o')) : RetC H (up H0 M Q) v a o' [] := fun _ x => ⟨_, h.chg s c x, k⟩
theorem ne_at (h : Hs H0 M L H) {a b : Addr} (h1 : H a = some o) (h2 : H b = some u) (n : o ≠ u) : a ≠ b := ne_of h1 h2 n
theorem News.one (n : H p = none) (e : H' p = some o) : News H H' [(p, o)] := ⟨by simp, fun q hq => by rw [List.mem_singleton.mp hq]; exact n, fun q hq => by rw [List.mem_singleton.mp hq]; exact e⟩
theorem News.two (ne : p ≠ q) (n : H p = none) (m : H q = none) (e : H' p = some o) (f : H' q = some u) : News H H' [(p, o), (q, u)] := ⟨by simp [ne], fun x hx => by
  rcases List.mem_cons.mp hx with z | z
  · rw [z]; exact n
  · rw [List.mem_singleton.mp z]; exact m, fun x hx => by
  rcases List.mem_cons.mp hx with z | z
  · rw [z]; exact e
  · rw [List.mem_singleton.mp z]; exact f⟩
/-- the callee ends -/
theorem Hs.ext0 (h : Hs H0 (fun _ => False) L H) : Ext H0 H := fun b u e => h.fr b u e id
theorem RetP.e0 {Q : VK} (k : RetP H0 Q v []) (h : Hs H0 (fun _ => False) L H) : Q v H := k H h.ext0 .nil
theorem RetP.e1 {Q : VK} (k : RetP H0 Q v [(p, o)]) (n : H0 p = none) (h : Hs H0 (fun _ => False) L H) (m : At L p o) : Q v H := k H h.ext0 (.one n (h.get m))
theorem RetP.e2 {Q : VK} (k : RetP H0 Q v [(p, o), (q, u)]) (ne : p ≠ q) (n : H0 p = none) (n2 : H0 q = none) (h : Hs H0 (fun _ => False) L H) (m : At L p o) (m2 : At L q u) : Q v H := k H h.ext0 (.two ne n n2 (h.get m) (h.get m2))
theorem Hs.chg0 (h : Hs H0 (fun x => x = a) L H) (m : At L a o) (n : News H0 H N) : Chg H0 H a o N := ⟨fun b u e ne => h.fr b u e ne, h.get m, n⟩
theorem RetC.e0 {Q : VK} (k : RetC H0 Q v a o []) (h : Hs H0 (fun x => x = a) L H) (m : At L a o) : Q v H := k H (h.chg0 m .nil)
theorem RetC.e1 {Q : VK} (k : RetC H0 Q v a o [(p, u)]) (n : H0 p = none) (h : Hs H0 (fun x => x = a) L H) (m : At L a o) (m2 : At L p u) : Q v H := k H (h.chg0 m (.one n (h.get m2)))
theorem RetC.e2 {Q : VK} {r : Addr} {w : HO} (k : RetC H0 Q v a o [(p, u), (r, w)]) (ne : p ≠ r) (n : H0 p = none) (n2 : H0 r = none) (h : Hs H0 (fun x => x = a) L H) (m : At L a o) (m2 : At L p u) (m3 : At L r w) : Q v H := k H (h.chg0 m (.two ne n n2 (h.get m2) (h.get m3)))
/-- the entry -/
theorem Hs.any (h : ∀ q ∈ L, H q.1 = some q.2) : Hs H (fun _ => False) L H := ⟨by
  rw [List.pairwise_map]
  exact List.pairwise_of_forall_mem_list (fun q hq r _ => .inr ⟨by rw [h q hq]; exact (fun z => nomatch z), id⟩), h, fun _ _ e _ => e, fun _ f => f.elim⟩
/-- .. one may change, the others stand -/
theorem Hs.anyM (ha : H a = some o) (h : ∀ q ∈ L, H q.1 = some q.2) (n : ∀ q ∈ L, q.1 ≠ a) : Hs H (fun x => x = a) ((a, o) :: L) H := ⟨by
  rw [List.map_cons, List.pairwise_cons, List.pairwise_map]
  refine ⟨fun b hb => ?_, List.pairwise_of_forall_mem_list (fun q hq r _ => .inr ⟨by rw [h q hq]; exact (fun z => nomatch z), n q hq⟩)⟩
  obtain ⟨q, hq, rfl⟩ := List.mem_map.mp hb
  exact .inl (n q hq).symm, fun q hq => by
  rcases List.mem_cons.mp hq with z | z
  · rw [z]; exact ha
  · exact h q z, fun _ _ e _ => e, fun b e => ⟨o, by rw [e]; exact ha⟩⟩
theorem Hs.s1 (h : H a = some o) : Hs H (fun _ => False) [(a, o)] H := ⟨by simp, by simp [h], fun _ _ e _ => e, fun _ f => f.elim⟩
theorem Hs.s0 : Hs H (fun _ => False) [] H := ⟨by simp, by simp, fun _ _ e _ => e, fun _ f => f.elim⟩
theorem Hs.s2 (ne : a ≠ p) (h : H a = some o) (h2 : H p = some u) : Hs H (fun _ => False) [(a, o), (p, u)] H := ⟨by simp [ne], by simp [h, h2], fun _ _ e _ => e, fun _ f => f.elim⟩
theorem Hs.m1 (h : H a = some o) : Hs H (fun x => x = a) [(a, o)] H := ⟨by simp, by simp [h], fun _ _ e _ => e, fun b e => ⟨o, by rw [e]; exact h⟩⟩
theorem Hs.m2 (ne : a ≠ p) (h : H a = some o) (h2 : H p = some u) : Hs H (fun x => x = a) [(a, o), (p, u)] H := ⟨by simp [ne], by simp [h, h2], fun _ _ e _ => e, fun b e => ⟨o, by rw [e]; exact h⟩⟩
theorem Hs.m3 {r : Addr} {w : HO} (ne : a ≠ p) (ne2 : a ≠ r) (ne3 : p ≠ r) (h : H a = some o) (h2 : H p = some u) (h3 : H r = some w) : Hs H (fun x => x = a) [(a, o), (p, u), (r, w)] H :=
  ⟨by simp [ne, ne2, ne3], by simp [h, h2, h3], fun _ _ e _ => e, fun b e => ⟨o, by rw [e]; exact h⟩⟩
theorem At.apart {L : LL} {a b : Addr} {o u : HO} (h : Hs H0 M L H) (x : At L a o) (y : At L b u) (d : o ≠ u) : a ≠ b := ne_of (h.get x) (h.get y) d
end
theorem lst_ne {xs ys : List V} (h : xs.length ≠ ys.length) : HO.lst xs ≠ HO.lst ys := fun e => h (by cases e; rfl)
/-- a def of the module as the top has left it -/
structure FunM (K : PySem.W.Frag) (mg : Str → Option Value) (x : Str) (st : Stmt) : Prop where
  ex : ∃ f fd, Fun K x x st f fd ∧ mg x = some (.ref f)
/-- a method, found at one place by the classes of a family -/
structure FunC (K : PySem.W.Frag) (Cs : Addr → Prop) (m qual : Str) (st : Stmt) : Prop where
  ex : ∃ f fd, Fun K m qual st f fd ∧ ∀ C, Cs C → Meth K C m f
structure FunP (K : PySem.W.Frag) (Cs : Addr → Prop) (m qual : Str) (st : Stmt) : Prop where
  ex : ∃ f fd, Fun K m qual st f fd ∧ ∀ C, Cs C → ∃ p, PropOf K C m p f
structure FunO (K : PySem.W.Frag) (Cs : Addr → Prop) (qual : Str) (st : Stmt) : Prop where
  ex : ∃ f fd, Fun K "__call__" qual st f fd ∧ ∀ C, Cs C → StX.CallO K C f
structure FunI (K : PySem.W.Frag) (mg : Str → Option Value) (x : Str) (C : Addr) (qual : Str) (st : Stmt) : Prop where
  ex : ∃ f fd, Fun K "__init__" qual st f fd ∧ mg x = some (.ref C) ∧ Mk K C f
/-- isinstance of plain values -/
theorem rc_isi {X : Cx} {H0 : Hp} {M : Addr → Prop} {L : LL} {Q : V → LL → Prop} {x c : V} {t u : Value} {b : Bool} (h1 : ClsV c u) (h2 : ∀ H, Hs H0 M L H → TyX X.K H x t) (h3 : PySem.W.kitOne X.K t u = some b) (h : Q (.bl b) L) : rc X H0 M (.builtin "isinstance") [x, c] L Q :=
  rc_of call_isi fun H z => ⟨x, c, t, u, b, rfl, h1, h2 H z, h3, L, z, h⟩
end Xi

/-! ## Go -/
/-! Calls from a running body. -/
namespace Xi
open PySem PySem.Spec PyProof.Rows L2
abbrev EE : XK := fun _ _ _ => False
theorem px0 {X : Cx} {E : XK} : Passes CX0 X E := fun _ _ _ _ _ _ _ h => h.elim
section
variable {X : Cx} {P : Program} {w : World} {K : PySem.W.Frag} {mg : Str → Option Value} {base : Heap} {k j : Nat} {N Nv : List Str} {sc : Scope} {sp : Sp} {x m : Str} {C : Addr} {Cs : Addr → Prop}
variable {p pos apos : Pos} {e o fe : Expr} {es : List Expr} {H0 : Hp} {M : Addr → Prop} {L : LL} {σ : L2.St} {Q : V → LL → Prop}
theorem Body.call (bd : Body X P w K mg base k N Nv sc) (D : DefT P w K mg base CX0 j x sp) (hj : Nat.ble j k = true) (hg : sc.names.lookup x = some .globalImplicit) (he : starEach (e :: es) X.env = (false, eval e X.env) :: starEach es X.env) (hpl : (backTo pos (starEach es X.env)).any (·.1) = false)
    (h : ka X H0 M (e :: es) σ L fun vs L1 => rs H0 M sp EE vs L1 Q) (hdb : (x == ("__debug__" : Str)) = false) : ke X H0 M (.Call (.Name x p) (e :: es) [] pos) σ L Q :=
  ke_call (bd.df D) (bd.rm (Nat.le_of_ble_eq_true hj)) bd.gd px0 (bd.gl hg) he hpl h hdb
theorem Body.call0 (bd : Body X P w K mg base k N Nv sc) (D : DefT P w K mg base CX0 j x sp) (hj : Nat.ble j k = true) (hg : sc.names.lookup x = some .globalImplicit)
    (h : rs H0 M sp EE [] L Q) (hdb : (x == ("__debug__" : Str)) = false) : ke X H0 M (.Call (.Name x p) [] [] pos) σ L Q :=
  ke_call0 (bd.df D) (bd.rm (Nat.le_of_ble_eq_true hj)) bd.gd px0 (bd.gl hg) h hdb
theorem Body.meth (bd : Body X P w K mg base k N Nv sc) (D : MethT P w K mg base CX0 j Cs m sp) (hj : Nat.ble j k = true)
    (he : starEach (e :: es) X.env = (false, eval e X.env) :: starEach es X.env) (hpl : (backTo pos (starEach es X.env)).any (·.1) = false)
    (ht : ∃ pl : Sem Bool, eval (.Call (.Attribute o m apos) (e :: es) [] pos) X.env = (do
      let ov ← eval o X.env
      standAt apos.atName
      let (f, first) ← holding [ov] (getMethod ov m pl)
      callWith pos f first (backTo pos (starEach (e :: es) X.env)) (backToKw pos (keywordEach [] X.env))))
    (h : ke X H0 M o σ L fun y L1 => ∃ a C dx fs, y = .ref a ∧ At L1 a (.ins C dx fs) ∧ Cs C ∧ fs.lookup m = none ∧ ka X H0 M (e :: es) σ L1 fun vs L2 => rs H0 M sp EE (.ref a :: vs) L2 Q) :
    ke X H0 M (.Call (.Attribute o m apos) (e :: es) [] pos) σ L Q := let ⟨_, ht⟩ := ht; ke_meth (bd.mt D) (bd.rm (Nat.le_of_ble_eq_true hj)) bd.gd px0 he hpl ht h
theorem Body.meth0 (bd : Body X P w K mg base k N Nv sc) (D : MethT P w K mg base CX0 j Cs m sp) (hj : Nat.ble j k = true)
    (ht : ∃ pl : Sem Bool, eval (.Call (.Attribute o m apos) [] [] pos) X.env = (do
      let ov ← eval o X.env
      standAt apos.atName
      let (f, first) ← holding [ov] (getMethod ov m pl)
      callWith pos f first (backTo pos (starEach [] X.env)) (backToKw pos (keywordEach [] X.env))))
    (h : ke X H0 M o σ L fun y L1 => ∃ a C dx fs, y = .ref a ∧ At L1 a (.ins C dx fs) ∧ Cs C ∧ fs.lookup m = none ∧ rs H0 M sp EE [.ref a] L1 Q) :
    ke X H0 M (.Call (.Attribute o m apos) [] [] pos) σ L Q := let ⟨_, ht⟩ := ht; ke_meth0 (bd.mt D) (bd.rm (Nat.le_of_ble_eq_true hj)) bd.gd px0 ht h
theorem Body.callO (bd : Body X P w K mg base k N Nv sc) (D : CallT P w K mg base CX0 j Cs sp) (hj : Nat.ble j k = true)
    (ht : eval (.Call fe (e :: es) [] pos) X.env = (do callWith pos (← eval fe X.env) [] (backTo pos (starEach (e :: es) X.env)) (backToKw pos (keywordEach [] X.env))))
    (he : starEach (e :: es) X.env = (false, eval e X.env) :: starEach es X.env) (hpl : (backTo pos (starEach es X.env)).any (·.1) = false)
    (h : ke X H0 M fe σ L fun y L1 => ∃ a, y = .ref a ∧ ka X H0 M (e :: es) σ L1 fun vs L2 => (∃ C dx fs, At L2 a (.ins C dx fs) ∧ Cs C) ∧ rs H0 M sp EE (.ref a :: vs) L2 Q) :
    ke X H0 M (.Call fe (e :: es) [] pos) σ L Q := ke_callO (bd.co D) (bd.rm (Nat.le_of_ble_eq_true hj)) bd.gd px0 ht he hpl h
theorem Body.make (bd : Body X P w K mg base k N Nv sc) (D : MakeT P w K mg base CX0 j x C sp) (hj : Nat.ble (j + 1) k = true) (hg : sc.names.lookup x = some .globalImplicit) (he : starEach (e :: es) X.env = (false, eval e X.env) :: starEach es X.env) (hpl : (backTo pos (starEach es X.env)).any (·.1) = false)
    (h : ka X H0 M (e :: es) σ L fun vs L1 => ∀ y dy, H0 y = none → H0 dy = none → rs H0 M sp EE (.ref y :: vs) ((y, .ins C dy []) :: (dy, .own y) :: L1) fun v L2 => v = .non ∧ Q (.ref y) L2)
    (hdb : (x == ("__debug__" : Str)) = false) : ke X H0 M (.Call (.Name x p) (e :: es) [] pos) σ L Q :=
  ke_make (bd.mk' D) (bd.rm (Nat.le_of_ble_eq_true hj)) bd.gd px0 (bd.gl hg) he hpl h hdb
theorem Body.prop {f : Str} (bd : Body X P w K mg base k N Nv sc) (D : PropT P w K mg base CX0 j Cs f sp) (hj : Nat.ble (j + 1) k = true) (hab : attributeBase e f X.env (eval e X.env) = eval e X.env)
    (h : ke X H0 M e σ L fun y L1 => ∃ a C dx fs, y = .ref a ∧ At L1 a (.ins C dx fs) ∧ Cs C ∧ rs H0 M sp EE [.ref a] L1 Q) : ke X H0 M (.Attribute e f pos) σ L Q :=
  ke_prop (bd.pr D) (bd.rm (Nat.le_of_ble_eq_true hj)) bd.gd px0 hab h
end
section
variable {P : Program} {w : World} {K : PySem.W.Frag} {mg : Str → Option Value} {base : Heap} {k : Nat} {x m qual : Str} {st : Stmt} {sp : Sp} {ps : List Str} {Cs : Addr → Prop} {C : Addr}
/-- the promise of a def, of a method .. by that of its code -/
theorem FunM.ok (F : FunM K mg x st) (b : ∀ f fd, Fun K x x st f fd → Binds K fd ps []) (h : ∀ f fd, Fun K x x st f fd → Fk P w K mg base CX0 k f fd ps sp) : DefT P w K mg base CX0 k x sp := by
  obtain ⟨f, fd, F, hm⟩ := F.ex
  exact ⟨f, fd, ps, h f fd F, hm, F.kp, b f fd F⟩
theorem FunC.ok (F : FunC K Cs m qual st) (hc : ∀ C, Cs C → Cls K C) (b : ∀ f fd, Fun K m qual st f fd → Binds K fd ps []) (h : ∀ f fd, Fun K m qual st f fd → Fk P w K mg base CX0 k f fd ps sp) : MethT P w K mg base CX0 k Cs m sp := by
  obtain ⟨f, fd, F, hm⟩ := F.ex
  exact ⟨f, fd, ps, h f fd F, fun C c => ⟨hc C c, hm C c⟩, b f fd F⟩
theorem FunP.ok (F : FunP K Cs m qual st) (hc : ∀ C, Cs C → Cls K C) (b : ∀ f fd, Fun K m qual st f fd → Binds K fd ps []) (h : ∀ f fd, Fun K m qual st f fd → Fk P w K mg base CX0 k f fd ps sp) : PropT P w K mg base CX0 k Cs m sp := by
  obtain ⟨f, fd, F, hm⟩ := F.ex
  exact ⟨f, fd, ps, h f fd F, fun C c => ⟨hc C c, hm C c⟩, b f fd F⟩
theorem FunO.ok (F : FunO K Cs qual st) (b : ∀ f fd, Fun K "__call__" qual st f fd → Binds K fd ps []) (h : ∀ f fd, Fun K "__call__" qual st f fd → Fk P w K mg base CX0 k f fd ps sp) : CallT P w K mg base CX0 k Cs sp := by
  obtain ⟨f, fd, F, hm⟩ := F.ex
  exact ⟨f, fd, ps, h f fd F, hm, b f fd F⟩
theorem FunI.ok (F : FunI K mg x C qual st) (b : ∀ f fd, Fun K "__init__" qual st f fd → Binds K fd ps []) (h : ∀ f fd, Fun K "__init__" qual st f fd → Fk P w K mg base CX0 k f fd ps sp) : MakeT P w K mg base CX0 k x C sp := by
  obtain ⟨f, fd, F, hm, mk⟩ := F.ex
  exact ⟨f, fd, ps, h f fd F, hm, mk, b f fd F⟩
end
/-! ### ways that are known -/
section
variable {A B : Prop} {p : Prop} [Decidable p]
theorem pickB_T (h : A) : PickB true A B := pickB_Y rfl h
theorem pickB_F (h : B) : PickB false A B := pickB_N rfl h
theorem pickB_nT (h : B) : PickB (!true) A B := pickB_N rfl h
theorem pickB_nF (h : A) : PickB (!false) A B := pickB_Y rfl h
theorem pickB_dY (c : p) (h : A) : PickB (decide p) A B := pickB_Y (decide_eq_true c) h
theorem pickB_dN (c : ¬ p) (h : B) : PickB (decide p) A B := pickB_N (decide_eq_false c) h
theorem pickB_eY (c : p) (h : B) : PickB (!decide p) A B := pickB_N (by rw [decide_eq_true c]; rfl) h
theorem pickB_eN (c : ¬ p) (h : A) : PickB (!decide p) A B := pickB_Y (by rw [decide_eq_false c]; rfl) h
theorem pick_dY (c : p) (h : A) : Pick (.bl (decide p)) A B := pick_Y (decide_eq_true c) h
theorem pick_dN (c : ¬ p) (h : B) : Pick (.bl (decide p)) A B := pick_N (decide_eq_false c) h
theorem pick_eY (c : p) (h : B) : Pick (.bl (!decide p)) A B := pick_N (by rw [decide_eq_true c]; rfl) h
theorem pick_eN (c : ¬ p) (h : A) : Pick (.bl (!decide p)) A B := pick_Y (by rw [decide_eq_false c]; rfl) h
theorem pick_nT (h : B) : Pick (.bl (!true)) A B := pick_N rfl h
theorem pick_nF (h : A) : Pick (.bl (!false)) A B := pick_Y rfl h
end
end Xi

/-! ## Seq -/
/-! Subscripts by what all parts are. -/
namespace Xi
open PySem PySem.Spec PyProof.Rows L2
theorem atI_in {α : Type} {xs : List α} {i : Int} (h0 : 0 ≤ i) (h1 : i < xs.length) : ∃ v, atI xs i = some v ∧ v ∈ xs ∧ xs[i.toNat]? = some v := by
  have hl : i.toNat < xs.length := by omega
  refine ⟨xs[i.toNat], ?_, List.getElem_mem hl, List.getElem?_eq_getElem hl⟩
  unfold atI ixN
  rw [if_pos h0, if_pos h1]
  exact List.getElem?_eq_getElem hl
theorem atI_last {α : Type} {xs : List α} {v : α} : atI (xs ++ [v]) (-1) = some v := by
  unfold atI ixN
  have h : -(((xs ++ [v]).length : Nat) : Int) ≤ -1 := by rw [List.length_append, List.length_singleton]; omega
  rw [if_neg (by decide), if_pos h]
  show (xs ++ [v])[(-1 + ((xs ++ [v]).length : Int)).toNat]? = some v
  have e : (-1 + ((xs ++ [v]).length : Int)).toNat = xs.length := by rw [List.length_append, List.length_singleton]; omega
  rw [e, List.getElem?_append_right (Nat.le_refl _), Nat.sub_self]
  rfl
section
variable {K : PySem.W.Frag} {H0 : Hp} {M : Addr → Prop} {L : LL} {Q : V → LL → Prop} {p : Addr} {i : Int} {xs : List V}
theorem ix_P (P : V → Prop) (h : Aq L p fun o => ∃ xs, o = .lst xs ∧ 0 ≤ i ∧ i < xs.length ∧ (∀ v ∈ xs, P v) ∧ ∀ v, P v → Q v L) : Ix K H0 M (.ref p) (.int i) L Q := by
  obtain ⟨o, ia, xs, rfl, h0, h1, hp, k⟩ := h
  obtain ⟨v, e, m, _⟩ := atI_in h0 h1
  exact ix_lst ia e (k v (hp v m))
/-- .. all parts numbers -/
theorem ix_I (P : Int → Prop) (h : Aq L p fun o => ∃ is : List Int, o = .lst (is.map V.int) ∧ 0 ≤ i ∧ i < is.length ∧ (∀ v ∈ is, P v) ∧ ∀ v, P v → Q (.int v) L) : Ix K H0 M (.ref p) (.int i) L Q := by
  obtain ⟨o, ia, is, rfl, h0, h1, hp, k⟩ := h
  obtain ⟨v, e, m, _⟩ := atI_in (xs := is.map V.int) h0 (by rw [List.length_map]; exact h1)
  obtain ⟨x, hx, rfl⟩ := List.mem_map.mp m
  exact ix_lst ia e (k x (hp x hx))
theorem ix_scrI {ns : List Int} (r : SqL K H0 p (ns.map V.int)) (m : ¬ M p) (h0 : 0 ≤ i) (h1 : i < ns.length) (k : ∀ x, Q (.int x) L) : Ix K H0 M (.ref p) (.int i) L Q := by
  obtain ⟨v, e, mm, _⟩ := atI_in (xs := ns.map V.int) h0 (by rw [List.length_map]; exact h1)
  obtain ⟨x, hx, rfl⟩ := List.mem_map.mp mm
  exact ix_scr r m e (k x)
theorem ix_last (h : Aq L p fun o => ∃ xs v, o = .lst (xs ++ [v]) ∧ Q v L) : Ix K H0 M (.ref p) (.int (-1)) L Q := by
  obtain ⟨o, ia, xs, v, rfl, k⟩ := h
  exact ix_lst ia atI_last k
end
theorem ix_bool {K : PySem.W.Frag} {H0 : Hp} {M : Addr → Prop} {L : LL} {Q : V → LL → Prop} {p : Addr} {g : Bool} (h : Aq L p fun o => ∃ a b, o = .lst [a, b] ∧ Q (if g = true then b else a) L) : Ix K H0 M (.ref p) (.int (if g = true then 1 else 0)) L Q := by
  obtain ⟨o, ia, a, b, rfl, k⟩ := h
  cases g
  · exact ix_lst ia (i := 0) rfl k
  · exact ix_lst ia (i := 1) rfl k
/-- what is no longer used is forgotten -/
theorem kb_sub {X : Cx} {H0 : Hp} {M : Addr → Prop} {L L' : LL} {ss : List Stmt} {σ : L2.St} {nx : L2.St → LL → Prop} {rt : V → LL → Prop} {bk ct : L2.St → LL → Prop} (s : Sub L' L) (h : kb X H0 M ss nx rt bk ct σ L') : kb X H0 M ss nx rt bk ct σ L := fun H z => h H (z.sub s)
/-- two places -/
inductive Two : LL → Addr → Addr → Prop where
  | l {L : LL} {a b : Addr} {o u : HO} (h : At L b u) : Two ((a, o) :: L) a b
  | r {L : LL} {a b : Addr} {o u : HO} (h : At L a u) : Two ((b, o) :: L) a b
  | t {L : LL} {a b : Addr} {q : Addr × HO} (h : Two L a b) : Two (q :: L) a b
theorem Two.ne' {L : LL} {a b : Addr} {R : Addr → Prop} (h : Two L a b) : (L.map (·.1)).Pairwise (fun a b => a ≠ b ∨ R a) → ¬ R a ∨ ¬ R b → a ≠ b := by
  induction h with
  | l h =>
    rintro nd c rfl
    exact ((List.pairwise_cons.mp nd).1 _ (List.mem_map.mpr ⟨_, h.mem, rfl⟩)).elim (fun z => z rfl) fun r => c.elim (fun z => z r) fun z => z r
  | r h =>
    rintro nd c rfl
    exact ((List.pairwise_cons.mp nd).1 _ (List.mem_map.mpr ⟨_, h.mem, rfl⟩)).elim (fun z => z rfl) fun r => c.elim (fun z => z r) fun z => z r
  | t _ ih => exact fun nd => ih (List.pairwise_cons.mp nd).2
theorem Two.ne {L : LL} {a b : Addr} {H0 : Hp} {M : Addr → Prop} (h : Two L a b) (nd : (L.map (·.1)).Pairwise (fun a b => a ≠ b ∨ (H0 a ≠ none ∧ ¬ M a))) (c : H0 a = none ∨ M a) : a ≠ b := h.ne' nd (.inl (put_not c))
theorem Two.ne2 {L : LL} {a b : Addr} {H0 : Hp} {M : Addr → Prop} (h : Two L a b) (nd : (L.map (·.1)).Pairwise (fun a b => a ≠ b ∨ (H0 a ≠ none ∧ ¬ M a))) (c : (H0 a = none ∨ M a) ∨ (H0 b = none ∨ M b)) : a ≠ b := h.ne' nd (c.imp put_not put_not)
theorem app_1 {L : LL} {a : Addr} {ys : List V} {B : Addr → Prop} (ia : At L a (.lst ys)) (h : B a) : ∃ q ys, V.ref a = .ref q ∧ At L q (.lst ys) ∧ B q := ⟨a, ys, rfl, ia, h⟩
theorem app_2 {H0 : Hp} {M : Addr → Prop} {L : LL} {a : Addr} {xs : List V} {v : V} {g : HO → LL} {B : LL → Prop} (s : Spot L a (.lst xs) g) (c : H0 a = none ∨ M a) (hl : xs.length < sizeLine) (h : B (g (.lst (xs ++ [v])))) :
    ∃ xs g, Spot L a (.lst xs) g ∧ (H0 a = none ∨ M a) ∧ xs.length < sizeLine ∧ B (g (.lst (xs ++ [v]))) := ⟨xs, g, s, c, hl, h⟩
/-! ### repr of flat lists and tuples -/
/-- a plain value with its text -/
inductive Fl : V → PyData → Prop where
  | int {i : Int} (h : i.natAbs.log2 < 1920) : Fl (.int i) (.int i)
  | str {x : Str} (h : (PyData.str x).shown.length ≤ 1921 ∧ PyData.strOk x = true) : Fl (.str x) (.str x)
  | non : Fl .non .none
  | bl {b : Bool} : Fl (.bl b) (.bool b)
inductive Fls : List V → List PyData → Prop where
  | nil : Fls [] []
  | cons {v : V} {d : PyData} {vs : List V} {ds : List PyData} (h : Fl v d) (t : Fls vs ds) : Fls (v :: vs) (d :: ds)
section
variable {K : PySem.W.Frag} {H : Hp} {vs : List V} {ds : List PyData} {v : V} {d : PyData}
theorem Fl.dp (h : Fl v d) : Dp K H v d := by
  cases h with
  | int h => exact .int _
  | str h => exact .str _
  | non => exact .non
  | bl => exact .bl _
theorem Fls.dp (h : Fls vs ds) : DpAll K H vs ds := by
  induction h with
  | nil => exact .nil
  | cons h _ ih => exact .cons h.dp ih
theorem Fl.facts (h : Fl v d) : d.showable = true ∧ d.hasDict = false ∧ d.depth ≤ 1 ∧ d.shown.length ≤ 1921 := by
  cases h with
  | int h => exact ⟨by simp [PyData.showable, h], by simp [PyData.hasDict], by simp [PyData.depth], int_le h⟩
  | str h => exact ⟨by simp [PyData.showable], by simp [PyData.hasDict], by simp [PyData.depth], h.1⟩
  | non => exact ⟨by simp [PyData.showable], by simp [PyData.hasDict], by simp [PyData.depth], by decide +kernel⟩
  | @bl b => exact ⟨by simp [PyData.showable], by simp [PyData.hasDict], by simp [PyData.depth], by cases b <;> decide +kernel⟩
theorem Fls.facts (h : Fls vs ds) : PyData.showableAll ds = true ∧ PyData.hasDictAll ds = false ∧ PyData.depthAll ds ≤ 1 ∧ ∀ d ∈ ds, d.shown.length ≤ 1921 := by
  induction h with
  | nil => exact ⟨by simp [PyData.showableAll], by simp [PyData.hasDictAll], by simp [PyData.depthAll], fun _ h => (nomatch h)⟩
  | cons h _ ih =>
    obtain ⟨a, b, c, e⟩ := h.facts
    obtain ⟨a2, b2, c2, e2⟩ := ih
    refine ⟨by simp [PyData.showableAll, a, a2], by simp [PyData.hasDictAll, b, b2], by simp only [PyData.depthAll]; omega, fun x hx => ?_⟩
    rcases List.mem_cons.mp hx with z | z
    · rw [z]; exact e
    · exact e2 x z
end
section
variable {X : Cx} {H0 : Hp} {M : Addr → Prop} {L : LL} {Q : V → LL → Prop} {k : Nat} {p : Addr} {vs : List V} {ds : List PyData}
theorem rc_reprL (hr : Room k X.A) (gd : X.A.guards = some []) (ia : At L p (.lst vs)) (f : Fls vs ds) (hn : Nat.ble ds.length 100 = true) (h : Q (.str (PyData.list ds).shown) L) : rc X H0 M (.builtin "repr") [.ref p] L Q := by
  obtain ⟨a, b, c, e⟩ := f.facts
  refine rc_repr hr gd (fun H z => .lst (z.sq ia) f.dp) (by simpa [PyData.showable] using a) (by simpa [PyData.hasDict] using b) (by simp only [PyData.depth]; omega) ?_ h
  exact Nat.le_trans (list_le e (Nat.le_of_ble_eq_true hn)) (by decide)
theorem rc_reprT (hr : Room k X.A) (gd : X.A.guards = some []) (ia : At L p (.tup vs)) (f : Fls vs ds) (hn : Nat.ble ds.length 100 = true) (h : Q (.str (PyData.tuple ds).shown) L) : rc X H0 M (.builtin "repr") [.ref p] L Q := by
  obtain ⟨a, b, c, e⟩ := f.facts
  refine rc_repr hr gd (fun H z => .tup (z.st ia) f.dp) (by simpa [PyData.showable] using a) (by simpa [PyData.hasDict] using b) (by simp only [PyData.depth]; omega) ?_ h
  exact Nat.le_trans (tuple_le e (Nat.le_of_ble_eq_true hn)) (by decide)
end
theorem log_of {i : Int} (h : -10000000000000000000000000000000000000000000000000000000000000000000000 ≤ i ∧ i ≤ 10000000000000000000000000000000000000000000000000000000000000000000000) : i.natAbs.log2 < 1920 := by
  have e : i.natAbs ≤ 10000000000000000000000000000000000000000000000000000000000000000000000 := by omega
  by_cases z : i.natAbs = 0
  · rw [z]; decide
  · refine (Nat.log2_lt z).mpr (Nat.lt_of_le_of_lt e ?_)
    exact Nat.lt_of_lt_of_le (show _ < 2 ^ 250 by decide +kernel) (Nat.pow_le_pow_right (by decide) (by decide))
section
variable {vs : List V} {ds : List PyData} {v : V} {d : PyData}
theorem Fl.lay (h : Fl v d) : d.canLay0 = true := by
  cases h with
  | str h => simp [PyData.canLay0, h.2]
  | int h => simp [PyData.canLay0]
  | non => simp [PyData.canLay0]
  | bl => simp [PyData.canLay0]
theorem Fls.lay (h : Fls vs ds) : PyData.canLayAll0 ds = true := by
  induction h with
  | nil => simp [PyData.canLayAll0]
  | cons h _ ih => simp [PyData.canLayAll0, h.lay, ih]
theorem Fls.shL (h : Fls vs ds) : SeqAt.shaped (.list ds) = true := by
  have a := h.lay
  have b := h.facts.2.2.1
  exact Bool.and_eq_true_iff.mpr ⟨by simpa [PyData.canLay0] using a, decide_eq_true (by simp only [PyData.depth]; omega)⟩
theorem Fls.shT (h : Fls vs ds) : SeqAt.shaped (.tuple ds) = true := by
  have a := h.lay
  have b := h.facts.2.2.1
  exact Bool.and_eq_true_iff.mpr ⟨by simpa [PyData.canLay0] using a, decide_eq_true (by simp only [PyData.depth]; omega)⟩
end
section
variable {X : Cx} {H0 : Hp} {M : Addr → Prop} {L : LL} {Q : V → LL → Prop} {k : Nat} {p q : Addr} {xs ys : List V} {ds es : List PyData}
theorem ro_eqL (hr : Room k X.A) (ia : At L p (.lst xs)) (ib : At L q (.lst ys)) (f : Fls xs ds) (g : Fls ys es) (h : Q (.bl (PyData.eqv (.list ds) (.list es))) L) : ro X H0 M (compareOp .Eq) (.ref p) (.ref q) L Q :=
  ro_of (op_eqD (by have := hr.un; omega)) fun H z => ⟨_, _, .lst (z.sq ia) f.dp, .lst (z.sq ib) g.dp, f.shL, g.shL, L, z, h⟩
theorem ro_neL (hr : Room k X.A) (ia : At L p (.lst xs)) (ib : At L q (.lst ys)) (f : Fls xs ds) (g : Fls ys es) (h : Q (.bl (!PyData.eqv (.list ds) (.list es))) L) : ro X H0 M (compareOp .NotEq) (.ref p) (.ref q) L Q :=
  ro_of (op_neD (by have := hr.un; omega)) fun H z => ⟨_, _, .lst (z.sq ia) f.dp, .lst (z.sq ib) g.dp, f.shL, g.shL, L, z, h⟩
theorem ro_eqT (hr : Room k X.A) (ia : At L p (.tup xs)) (ib : At L q (.tup ys)) (f : Fls xs ds) (g : Fls ys es) (h : Q (.bl (PyData.eqv (.tuple ds) (.tuple es))) L) : ro X H0 M (compareOp .Eq) (.ref p) (.ref q) L Q :=
  ro_of (op_eqD (by have := hr.un; omega)) fun H z => ⟨_, _, .tup (z.st ia) f.dp, .tup (z.st ib) g.dp, f.shT, g.shT, L, z, h⟩
theorem ro_neT (hr : Room k X.A) (ia : At L p (.tup xs)) (ib : At L q (.tup ys)) (f : Fls xs ds) (g : Fls ys es) (h : Q (.bl (!PyData.eqv (.tuple ds) (.tuple es))) L) : ro X H0 M (compareOp .NotEq) (.ref p) (.ref q) L Q :=
  ro_of (op_neD (by have := hr.un; omega)) fun H z => ⟨_, _, .tup (z.st ia) f.dp, .tup (z.st ib) g.dp, f.shT, g.shT, L, z, h⟩
end
/-- x, y = a, b, local names -/
theorem ks_par {X : Cx} {H0 : Hp} {M : Addr → Prop} {L : LL} {σ : L2.St} {N Nv : List Str} {x y : Str} {a b : Expr} {px py pt pos : Pos} {kt k2 pt2} {nx : L2.St → LL → Prop} {rt : V → LL → Prop} {bk ct : L2.St → LL → Prop} (n : Ns X N Nv) (hc : X.calm = true) (mx : x ∈ N) (my : y ∈ N) (hxy : (x == y) = false)
    (hx : X.env.scope.names.lookup x = some .local) (hy : X.env.scope.names.lookup y = some .local)
    (hw : swappedStores [.Tuple [.Name x px, .Name y py] kt pt] (.Tuple [a, b] k2 pt2) X.env = pure (some [x, y]))
    (hs : swapsWithSole [.Tuple [.Name x px, .Name y py] kt pt] (.Tuple [a, b] k2 pt2) pos.line X.env = pure false)
    (h : ka X H0 M [a, b] σ L fun vs L1 => ∃ v w, vs = [v, w] ∧ Pq N σ x v fun σ1 => Pq N σ1 y w fun σ2 => nx σ2 L1) : ks X H0 M (.Assign [.Tuple [.Name x px, .Name y py] kt pt] (.Tuple [a, b] k2 pt2) pos) nx rt bk ct σ L := by
  obtain ⟨i, hi⟩ := List.getElem?_of_mem mx
  obtain ⟨j, hj⟩ := List.getElem?_of_mem my
  rw [← n.eq] at hi hj
  have hij : i ≠ j := fun e => by
    subst e
    rw [hi] at hj
    cases hj
    rw [beq_self_eq_true] at hxy
    cases hxy
  refine ks_of (ps_par hc (by rw [n.eq]; exact n.nd) hi hj hij hx hy pa_wa hw hs) fun H z => wa_mono (h H z) fun vs H1 ⟨L1, z1, v, w, ev, σ1, p1, σ2, p2, k⟩ => ⟨v, w, ev, L1, z1, ?_⟩
  show nx ((σ.set i (some v)).set j (some w)) L1
  rw [n.ix hi p1, n.ix hj p2]
  exact k
theorem Body.par {X : Cx} {P : Program} {w : World} {K : PySem.W.Frag} {mg : Str → Option Value} {base : Heap} {k : Nat} {sc : Scope} {H0 : Hp} {M : Addr → Prop} {L : LL} {σ : L2.St} {N Nv : List Str} {x y : Str} {a b : Expr} {px py pt pos : Pos} {kt k2 pt2} {nx : L2.St → LL → Prop} {rt : V → LL → Prop} {bk ct : L2.St → LL → Prop} (bd : Body X P w K mg base k N Nv sc) (n : Ns X N Nv) (mx : x ∈ N) (my : y ∈ N) (hxy : (x == y) = false)
    (hx : sc.names.lookup x = some .local) (hy : sc.names.lookup y = some .local)
    (hw : ∀ env : Env, env.scope = sc → swappedStores [.Tuple [.Name x px, .Name y py] kt pt] (.Tuple [a, b] k2 pt2) env = pure (some [x, y]))
    (hs : swapsWithSole [.Tuple [.Name x px, .Name y py] kt pt] (.Tuple [a, b] k2 pt2) pos.line X.env = pure false)
    (h : ka X H0 M [a, b] σ L fun vs L1 => ∃ v w, vs = [v, w] ∧ Pq N σ x v fun σ1 => Pq N σ1 y w fun σ2 => nx σ2 L1) : ks X H0 M (.Assign [.Tuple [.Name x px, .Name y py] kt pt] (.Tuple [a, b] k2 pt2) pos) nx rt bk ct σ L :=
  ks_par n bd.calm mx my hxy (by rw [bd.scope]; exact hx) (by rw [bd.scope]; exact hy) (hw _ bd.scope) hs h
theorem ka_go {X : Cx} {H0 H : Hp} {M : Addr → Prop} {L : LL} {es : List Expr} {σ : L2.St} {Q : List V → LL → Prop} (z : Hs H0 M L H) (h : ka X H0 M es σ L Q) : wa X es σ H (upA H0 M Q) := h H z
end Xi

/-! ## Op -/
/-! Operators between two objects of one family of classes. -/
namespace Xi
open PySem PySem.Spec PyProof.Rows L2 PySem.W
abbrev missMsg (nm name : Str) : Str := (Str.ofString ("type object '" ++ toString nm.toString ++ "' has no attribute '") ++ name ++ Str.ofString "'")
/-- an AttributeError, newly made -/
structure Left (h h' : Heap) (e : Addr) : Prop where
  keeps : ∀ b o, h.get? b = some o → h'.get? b = some o
  there : ∃ ob, h'.get? e = some ob ∧ ob.cls = .type "AttributeError"
theorem raise_left {α : Type} {M : Model} {A : Around} {E : Value → Shared → Prop} {s : Shared} {msg : Str} {Q : α → Shared → Prop} (hh : A.handled = none) (hm : msg.length ≤ sizeLine)
    (h : ∀ h' tk e, Left s.heap h' e → E (.ref e) { s with heap := h', toks := tk }) : wpAny M A (raiseErrorStr "AttributeError" msg : Sem α) Q E s := by
  unfold raiseErrorStr
  refine wpAny_bind (wpAny_mkStr (wpAny_bind ?_) hm)
  unfold newExc newTuple
  refine wpAny_bind (wpAny_newObj_type ?_ (by size_fits))
  refine wpAny_bind (m := firstArgMember _ _) (wpAny_of_eq (a := Value.none) (by simp only [firstArgMember, attrError_no_first]; rfl) ?_)
  rw [ownMembersOf_AttributeError]
  refine wpAny_newObj_type ?_ (by size_fits)
  unfold raiseNew
  refine wpAny_bind (wpAny_handled ?_)
  rw [hh]
  first
    | refine wpAny_throw ?_
    | refine wpAny_bind (wpAny_pure (wpAny_throw ?_))
  exact h _ _ _ ⟨fun b o hb => Heap.get?_push_of_some _ (Heap.get?_push_of_some _ hb), _, Heap.get?_push_size _ rfl, rfl⟩
section
variable {prog : Program} {w : World} {A : Around} {E : Value → Shared → Prop} {s : Shared} {K : PySem.W.Frag} {C : Addr} {mc : Value} {name : Str} {cd : ClassData}
theorem tga_miss {tk : Tok} {Q : Fin → Shared → Prop} (X : K.In s.heap) (ho : Looks (model prog w) s.heap (opaqueClassAbove (.ref C)) none) (ht : Looks (model prog w) s.heap (typeOf (.ref C)) mc) (h1 : findIn K mc name = some none) (h4 : findIn K (.ref C) name = some none)
    (hcd : clsIn K C = some cd) (hle : cd.name.cps.foldl (fun k c => k + (Str.utf8Of c).length) 0 ≤ 100) (hm : (missMsg cd.name name).length ≤ sizeLine) (hh : A.handled = none)
    (h : ∀ h' tk e, Left s.heap h' e → E (.ref e) { s with heap := h', toks := tk }) : wpAny (model prog w) A (Builtin.«type.__getattribute__» ⟨[.ref C, .str name tk], []⟩) Q E s := by
  have L1 := looks_findIn (M := model prog w) X h1
  have L4 := looks_findIn (M := model prog w) X h4
  have LC := looks_clsIn (M := model prog w) X hcd
  obtain ⟨hh', g, d, t, os⟩ := s
  dsimp only at X ho ht L1 L4 LC
  unfold Builtin.«type.__getattribute__»
  refine wpAny_bind (wpAny_pure (wpAny_bind (ho.at (wpAny_bind (ht.at (wpAny_bind (L1.at ?_)))))))
  refine wpAny_bind (wpAny_pure (wpAny_bind (L4.at ?_)))
  dsimp only
  refine wpAny_bind (wpAny_rule ?_)
  unfold typeNameCut
  refine wpAny_bind (wpAny_bind (LC.at ?_))
  rw [if_pos hle]
  refine wpAny_pure ?_
  exact raise_left hh hm h
/-- the class has not the name: an error that is caught again -/
theorem cls_miss {tk : Tok} {Q : Option Value → Shared → Prop} {hook : Option Value} (X : K.In s.heap) (th : nsIn K cStatics "thirdparty.any" = some none) (ty : typeIn K (.ref C) = some (.type "type"))
    (h1 : findIn K (.type "type") name = some none) (h4 : findIn K (.ref C) name = some none) (hga : findIn K (.type "type") "__getattribute__" = some (some (.builtin "type.__getattribute__"))) (hga2 : findIn K (.type "type") "__getattr__" = some none) (hi : subIn K (.type "type") (.type "type") = some true)
    (hcd : clsIn K C = some cd) (hle : cd.name.cps.foldl (fun k c => k + (Str.utf8Of c).length) 0 ≤ 100) (hm : (missMsg cd.name name).length ≤ sizeLine) (hh : A.handled = none)
    (h : ∀ h' tk, (∀ b o, s.heap.get? b = some o → h'.get? b = some o) → Q none { s with heap := h', toks := tk }) : wpAny (model prog w) A (getAttrBy? (.ref C) (.str name tk)) Q E s := by
  have ht := looks_typeIn (M := model prog w) X ty
  unfold getAttrBy?
  refine wpAny_bind (wpAny_attempt ?_)
  unfold getAttrBy
  refine wpAny_holding (wpAny_bind (ht _ _ _ _ (fun _ _ e => e) (wpAny_bind (looks_findIn X hga _ _ _ _ (fun _ _ e => e) ?_))))
  dsimp only
  rw [show (onTheHeap (.type "type") && Value.builtin "type.__getattribute__" == Value.builtin "object.__getattribute__") = false from by rfl, if_neg (by decide)]
  unfold getAttrByItsOwn
  refine wpAny_bind (wpAny_pure (wpAny_bind (wpAny_attempt (wpAny_holding ?_))))
  unfold callGetattribute
  rw [show (false && onTheHeap (Value.builtin "type.__getattribute__")) = false from rfl, if_neg (by decide)]
  unfold boundAndCalled
  rw [KF.slot_tga.bind]
  refine wpAny_bind (wpAny_pure ?_)
  show wpAny _ _ (call (.builtin "type.__getattribute__") [.ref C, .str name tk]) _ _ _
  refine wpAny_call ?_
  refine codeAny_call_builtin KF.slot_tga.plain KF.entry_tga ?_
  refine @check_slot (model prog w) _ _ s "type.__getattribute__" "type" "__getattribute__" (.ref C) [.str name tk] [] _ (by decide +kernel) (by decide +kernel) (ht.andThen (looks_subIn X hi)) (KF.args_tga (.ref C) (.str name tk)) ?_
  refine tga_miss X (looks_opaque X th) ht h1 h4 hcd hle hm hh fun h' tk' e le => ?_
  obtain ⟨kp, ob, hob, hcl⟩ := le
  dsimp only
  unfold getattributeRaised
  refine wpAny_bind (wpAny_isInstance (T := "AttributeError") ⟨ob, hob, hcl⟩ sub_AttributeError ?_)
  rw [if_pos rfl]
  refine wpAny_bind ?_
  unfold hookBehind
  rw [show onTheHeap (Value.type "type") = false from rfl, if_neg (by decide)]
  have X2 : K.In h' := fun b o z => kp b o (X b o z)
  refine looks_findIn X2 hga2 _ _ _ _ (fun _ _ e => e) ?_
  unfold hookOrError attributeErrorLeaves
  refine wpAny_bind (wpAny_throw ?_)
  refine wpAny_bind (wpAny_isInstance (T := "AttributeError") ⟨ob, hob, hcl⟩ sub_AttributeError ?_)
  rw [if_pos rfl]
  exact wpAny_pure (h h' tk' kp)
end
/-- what a class says of an operator's name nm: f is found, nothing reflected -/
structure Fam (K : PySem.W.Frag) (C : Addr) (nm : String) (f : Addr) : Prop where
  at_ : findIn K (.ref C) (PySem.dunder nm) = some (some (.ref f))
  fn : isFn K (.ref f) = true
  first : selfFirst K C = true
  noR : findIn K (.ref C) (dunderR nm) = some none
  ty : typeIn K (.ref C) = some (.type "type")
  nm : ∃ cd, clsIn K C = some cd ∧ cd.name.cps.foldl (fun k c => k + (Str.utf8Of c).length) 0 ≤ 100 ∧ (missMsg cd.name (dunderR nm)).length ≤ sizeLine
/-- .. and of classes at all -/
structure Top0 (K : PySem.W.Frag) (nm : String) : Prop where
  th : nsIn K cStatics "thirdparty.any" = some none
  noR : findIn K (.type "type") (dunderR nm) = some none
  ga : findIn K (.type "type") "__getattribute__" = some (some (.builtin "type.__getattribute__"))
  gb : findIn K (.type "type") "__getattr__" = some none
  sb : subIn K (.type "type") (.type "type") = some true
  fits : (dunderR nm).length ≤ sizeLine
section
variable {prog : Program} {w : World} {A : Around} {E : Value → Shared → Prop} {s : Shared} {K : PySem.W.Frag} {C D f x y : Addr} {nm : String} {ox oy : Obj} {od oe : Option Obj}
theorem refl_no {Q : Bool → Shared → Prop} (X : K.In s.heap) (FC : Fam K C nm f) (FD : Fam K D nm f) (T : Top0 K nm) (hh : A.handled = none)
    (h : ∀ h' tk, (∀ b o, s.heap.get? b = some o → h'.get? b = some o) → Q false { s with heap := h', toks := tk }) : wpAny (model prog w) A (reflectedDiffers (.ref C) (.ref D) nm) Q E s := by
  have LC : Looks (model prog w) s.heap (numberSlotInPython (.ref C) nm) true := ksp_inPy X FC.at_ FC.noR (.inl rfl)
  have LD : Looks (model prog w) s.heap (numberSlotInPython (.ref D) nm) true := ksp_inPy X FD.at_ FD.noR (.inl rfl)
  obtain ⟨cd, c1, c2, c3⟩ := FD.nm
  unfold reflectedDiffers
  refine wpAny_bind (LC _ _ _ _ (fun _ _ e => e) ?_)
  simp only [Bool.not_true, Bool.false_eq_true, if_false]
  refine wpAny_bind (LD _ _ _ _ (fun _ _ e => e) ?_)
  simp only [Bool.not_true, Bool.false_eq_true, if_false]
  refine wpAny_bind (wpAny_mkStr ?_ T.fits)
  refine wpAny_bind (cls_miss (hook := none) X T.th FD.ty T.noR FD.noR T.ga T.gb T.sb c1 c2 c3 hh fun h' tk kp => ?_)
  exact wpAny_pure (h h' tk kp)
theorem inst_keeps {h h' : Heap} (I : PySem.W.InstAt h x ox C od) (kp : ∀ b o, h.get? b = some o → h'.get? b = some o) : PySem.W.InstAt h' x ox C od := ⟨kp _ _ I.at_, I.cls, I.no, by
  have := I.dict
  split at this <;> first | exact kp _ _ this | trivial | exact this.elim⟩
theorem bin_fam {op : Operator} {Q : Value → Shared → Prop} (X : K.In s.heap) (I : InstAt s.heap x ox C od) (J : InstAt s.heap y oy D oe) (FC : Fam K C op.info.2 f) (FD : Fam K D op.info.2 f) (T : Top0 K op.info.2) (hs : ∃ b, subIn K (.ref D) (.ref C) = some b) (hh : A.handled = none)
    (h : ∀ (h' : Heap) (tk : Nat), (∀ b o, s.heap.get? b = some o → h'.get? b = some o) → wpAny (model prog w) A (call (.ref f) [.ref x, .ref y]) (PySem.W.CmpBack Q) E { s with heap := h', toks := tk }) : wpAny (model prog w) A (binaryOp op (.ref x) (.ref y)) Q E s := by
  obtain ⟨cd, rest, hcd, hm⟩ := ksp_first FC.first
  obtain ⟨cd2, rest2, hcd2, hm2⟩ := ksp_first FD.first
  obtain ⟨b, hb⟩ := hs
  rcases hi : op.info with ⟨sym, nm'⟩
  rw [hi] at FC FD T
  dsimp only at FC FD T
  have step : ∀ (h' : Heap) (tk : Nat), (∀ b o, s.heap.get? b = some o → h'.get? b = some o) → wpAny (model prog w) A (tryMethod (.ref x) (PySem.dunder nm') (.ref y)) (fun r s' => ∃ v, r = some v ∧ Q v s') E { s with heap := h', toks := tk } := fun h' tk kp =>
    ksp_try (s := { s with heap := h', toks := tk }) (fun b o z => kp b o (X b o z)) (inst_keeps I kp) FC.at_ FC.fn (h h' tk kp)
  obtain ⟨h0, g, d, tt, os⟩ := s
  dsimp only at X I J step
  have L1 : Looks (model prog w) h0 (typeOf (.ref x)) (.ref C) := I.type
  have L2 : Looks (model prog w) h0 (typeOf (.ref y)) (.ref D) := J.type
  have L3 : Looks (model prog w) h0 (fillsNumberSlot (.ref C) nm') true := fills_K X hcd hm FC.at_
  have L4 : Looks (model prog w) h0 (fillsNumberSlot (.ref D) nm') true := fills_K X hcd2 hm2 FD.at_
  have L5 : Looks (model prog w) h0 (isSubtype (.ref D) (.ref C)) b := looks_subIn X hb
  have P1 : ∀ h' : Heap, (∀ b o, h0.get? b = some o → h'.get? b = some o) → Looks (model prog w) h' (numberSlotInPython (.ref C) nm') true := fun h' kp => ksp_inPy (fun b o z => kp b o (X b o z)) FC.at_ FC.noR (.inl rfl)
  have P2 : ∀ h' : Heap, (∀ b o, h0.get? b = some o → h'.get? b = some o) → Looks (model prog w) h' (numberSlotInPython (.ref D) nm') true := fun h' kp => ksp_inPy (fun b o z => kp b o (X b o z)) FD.at_ FD.noR (.inl rfl)
  simp only [binaryOp, hi]
  refine wpAny_holding (wpAny_bind ?_)
  unfold binaryOp1
  refine wpAny_bind (L1.at (wpAny_bind (L2.at (wpAny_bind (L3.at ?_)))))
  by_cases e : C = D
  · subst e
    simp only [beq_self_eq_true, if_true]
    refine wpAny_bind (wpAny_pure ?_)
    simp only [Bool.and_false, Bool.false_eq_true, if_false, Bool.false_and]
    refine wpAny_bind (wpAny_pure ?_)
    simp only [Bool.false_eq_true, if_false]
    refine wpAny_bind (wpAny_mono (step h0 tt fun _ _ z => z) (fun r s' hr' => ?_) fun _ _ e => e)
    obtain ⟨v, rfl, hq⟩ := hr'
    exact wpAny_pure (wpAny_pure hq)
  · have hne : (Value.ref C == Value.ref D) = false := Bool.eq_false_iff.mpr fun q => e (by cases beq_iff_eq.mp q; rfl)
    simp only [hne, Bool.false_eq_true, if_false]
    refine wpAny_bind (L4.at ?_)
    simp only [Bool.and_self, if_true]
    refine wpAny_bind (L5.at ?_)
    cases b with
    | true =>
      rw [if_pos rfl]
      refine wpAny_bind (refl_no X FC FD T hh fun h' tk kp => ?_)
      simp only [Bool.false_eq_true, if_false, Bool.not_false, Bool.and_self, if_true]
      refine wpAny_bind ((P1 h' kp).at ?_)
      simp only [if_true]
      refine wpAny_bind ((P2 h' kp).at ?_)
      simp only [Bool.not_true, Bool.false_eq_true, if_false]
      refine wpAny_bind (wpAny_mono (step h' tk kp) (fun r s' hr' => ?_) fun _ _ e => e)
      obtain ⟨v, rfl, hq⟩ := hr'
      exact wpAny_pure (wpAny_pure hq)
    | false =>
      simp only [Bool.false_eq_true, if_false, Bool.not_false, Bool.and_self, if_true]
      refine wpAny_bind ((P1 h0 fun _ _ z => z).at ?_)
      simp only [if_true]
      refine wpAny_bind ((P2 h0 fun _ _ z => z).at ?_)
      simp only [Bool.not_true, Bool.false_eq_true, if_false]
      refine wpAny_bind (wpAny_mono (step h0 tt fun _ _ z => z) (fun r s' hr' => ?_) fun _ _ e => e)
      obtain ⟨v, rfl, hq⟩ := hr'
      exact wpAny_pure (wpAny_pure hq)
end
/-- .. the right side a plain value of the type T -/
theorem bin_type {prog : Program} {w : World} {A : Around} {E : Value → Shared → Prop} {s : Shared} {K : PySem.W.Frag} {C f x : Addr} {ox : Obj} {od : Option Obj} {T : String} {b : Value} {op : Operator} {fo ro : Option Value} {Q : Value → Shared → Prop} (X : K.In s.heap) (I : PySem.W.InstAt s.heap x ox C od) (hb : typeOf b = pure (.type T)) (FC : Fam K C op.info.2 f)
    (h1 : findIn K (.type T) (PySem.dunder op.info.2) = some fo) (h2 : findIn K (.type T) (dunderR op.info.2) = some ro) (hs : subIn K (.type T) (.ref C) = some false) (h : wpAny (model prog w) A (call (.ref f) [.ref x, b]) (PySem.W.CmpBack Q) E s) : wpAny (model prog w) A (binaryOp op (.ref x) b) Q E s := by
  obtain ⟨cd, rest, hcd, hm⟩ := ksp_first FC.first
  rcases hi : op.info with ⟨sym, nm'⟩
  rw [hi] at FC h1 h2
  dsimp only at FC h1 h2
  have step := ksp_try X I FC.at_ FC.fn h
  obtain ⟨h0, g, d, tt, os⟩ := s
  dsimp only at X I step
  have L1 : Looks (model prog w) h0 (typeOf (.ref x)) (.ref C) := I.type
  have L2 : Looks (model prog w) h0 (typeOf b) (.type T) := Looks.of_pure hb
  have L3 : Looks (model prog w) h0 (fillsNumberSlot (.ref C) nm') true := fills_K X hcd hm FC.at_
  have L4 : Looks (model prog w) h0 (fillsNumberSlot (.type T) nm') ((fo.isSome && !isSeqSlot fo) || (ro.isSome && !isSeqSlot ro)) := ksp_fillsT X h1 h2
  have L5 : Looks (model prog w) h0 (isSubtype (.type T) (.ref C)) false := looks_subIn X hs
  have L6 : Looks (model prog w) h0 (numberSlotInPython (.ref C) nm') true := ksp_inPy X FC.at_ FC.noR (.inl rfl)
  have L7 : Looks (model prog w) h0 (numberSlotInPython (.type T) nm') false := Looks.of_pure rfl
  have L8 : Looks (model prog w) h0 (typeLookup (.type T) (dunderR nm')) ro := looks_findIn X h2
  generalize ((fo.isSome && !isSeqSlot fo) || (ro.isSome && !isSeqSlot ro)) = rr at L4
  have hne : (Value.ref C == Value.type T) = false := Bool.eq_false_iff.mpr fun q => by cases beq_iff_eq.mp q
  simp only [binaryOp, hi]
  refine wpAny_holding (wpAny_bind ?_)
  unfold binaryOp1
  refine wpAny_bind (L1.at (wpAny_bind (L2.at (wpAny_bind (L3.at ?_)))))
  simp only [hne, Bool.false_eq_true, if_false]
  refine wpAny_bind (L4.at ?_)
  cases rr with
  | true =>
    simp only [Bool.and_self, if_true]
    refine wpAny_bind (L5.at ?_)
    simp only [Bool.false_eq_true, if_false, Bool.not_false, Bool.and_self, if_true]
    refine wpAny_bind (L6.at ?_)
    simp only [if_true]
    refine wpAny_bind (L7.at ?_)
    simp only [Bool.not_false, if_true]
    refine wpAny_bind (L8.at ?_)
    refine wpAny_bind (wpAny_mono step (fun r s' hr' => ?_) fun _ _ e => e)
    obtain ⟨v, rfl, hq⟩ := hr'
    exact wpAny_pure (wpAny_pure hq)
  | false =>
    simp only [Bool.and_false, Bool.false_and, Bool.false_eq_true, if_false, if_true]
    refine wpAny_bind (wpAny_pure ?_)
    simp only [Bool.false_eq_true, if_false, if_true]
    refine wpAny_bind (wpAny_mono step (fun r s' hr' => ?_) fun _ _ e => e)
    obtain ⟨v, rfl, hq⟩ := hr'
    exact wpAny_pure (wpAny_pure hq)
/-- an operator's method of a family of classes -/
structure OpT (P : Program) (w : World) (K : PySem.W.Frag) (mg : Str → Option Value) (base : Heap) (CX : CXT) (k : Nat) (Cs : Addr → Prop) (nm : String) (sp : Sp) : Prop where
  ex : ∃ f fd ps, Fk P w K mg base CX k f fd ps sp ∧ (∀ C, Cs C → Fam K C nm f) ∧ (∀ C D, Cs C → Cs D → ∃ b, subIn K (.ref D) (.ref C) = some b) ∧ Top0 K nm ∧ Binds K fd ps []
theorem cmp_back {Q : VK} {v : V} {u : Value} {s : Shared} {R : Value → Shared → Prop} (r : RelV v u) (h : R u s) : PySem.W.CmpBack R u s := by
  cases u <;> first | exact h | (cases v <;> first | exact (nomatch r) | (obtain ⟨_, r⟩ := r; cases r))
section
variable {X : Cx} {P : Program} {w : World} {K : PySem.W.Frag} {mg : Str → Option Value} {base : Heap} {k j : Nat} {N Nv : List Str} {sc : Scope} {sp : Sp} {a b C D dx dy : Addr} {fs gs : List (Str × V)} {Cs : Addr → Prop} {op : Operator} {nm : String}
variable {H0 : Hp} {M : Addr → Prop} {L : LL} {Q : V → LL → Prop}
theorem Body.bin (bd : Body X P w K mg base k N Nv sc) (O : OpT P w K mg base CX0 j Cs nm sp) (hj : Nat.ble j k = true) (e : op.info.2 = nm) (ix : At L a (.ins C dx fs)) (cC : Cs C) (iy : At L b (.ins D dy gs)) (cD : Cs D)
    (h : rs H0 M sp EE [.ref a, .ref b] L Q) : ro X H0 M (binaryOp op) (.ref a) (.ref b) L Q := fun H z pins s σ v u I rx ry => by
  subst e
  obtain ⟨f, fd, ps, F, fam, sub, top, hb⟩ := O.ex
  rw [← bd.prog, ← bd.w, ← bd.K, ← bd.mg, ← bd.base] at F
  rw [← bd.K] at fam sub top hb
  obtain rfl : v = Value.ref a := rx
  obtain rfl : u = Value.ref b := ry
  obtain ⟨ox, od, J, _⟩ := StX.insC_at I (.inr ⟨dx, fs, z.get ix⟩)
  obtain ⟨oy, oe, J2, _⟩ := StX.insC_at I (.inr ⟨dy, gs, z.get iy⟩)
  refine bin_fam I.kIn J J2 (fam C cC) (fam D cD) top (sub C D cC cD) bd.room.hd fun h' tk kp => ?_
  have I2 := I.kept (t' := tk) kp
  refine wpAny_mono (fk_run (us := [.ref a, .ref b]) (vs := [.ref a, .ref b]) F (bd.rm (Nat.le_of_ble_eq_true hj)) bd.gd hb .nil px0 I2 (.cons rfl (.cons rfl .nil)) (h H z)) (fun r s2 ⟨v, H2, I3, rv, q⟩ => ?_) fun _ _ e => e
  exact cmp_back (Q := fun _ _ => True) rv ⟨v, H2, I3, rv, q⟩
/-- .. with an integer behind it -/
theorem Body.binI {i : Int} (bd : Body X P w K mg base k N Nv sc) (O : OpT P w K mg base CX0 j Cs nm sp) (hj : Nat.ble j k = true) (e : op.info.2 = nm) (ty : ∃ fo ro, findIn K (.type "int") (PySem.dunder nm) = some fo ∧ findIn K (.type "int") (dunderR nm) = some ro) (sb : subIn K (.type "int") (.ref C) = some false) (ix : At L a (.ins C dx fs)) (cC : Cs C)
    (h : rs H0 M sp EE [.ref a, .int i] L Q) : ro X H0 M (binaryOp op) (.ref a) (.int i) L Q := fun H z pins s σ v u I rx ry => by
  subst e
  obtain ⟨f, fd, ps, F, fam, sub, top, hb⟩ := O.ex
  obtain ⟨fo, ro', t1, t2⟩ := ty
  rw [← bd.prog, ← bd.w, ← bd.K, ← bd.mg, ← bd.base] at F
  rw [← bd.K] at fam sub top hb t1 t2 sb
  obtain rfl : v = Value.ref a := rx
  obtain ⟨ti, rfl⟩ := ry
  obtain ⟨ox, od, J, _⟩ := StX.insC_at I (.inr ⟨dx, fs, z.get ix⟩)
  refine bin_type (T := "int") I.kIn J rfl (fam C cC) t1 t2 sb ?_
  refine wpAny_mono (fk_run (us := [.ref a, .int i ti]) (vs := [.ref a, .int i]) F (bd.rm (Nat.le_of_ble_eq_true hj)) bd.gd hb .nil px0 I (.cons rfl (.cons ⟨ti, rfl⟩ .nil)) (h H z)) (fun r s2 ⟨v, H2, I3, rv, q⟩ => ?_) fun _ _ e => e
  exact cmp_back (Q := fun _ _ => True) rv ⟨v, H2, I3, rv, q⟩
end
end Xi

/-! ## Lc -/
/-! List comprehensions. -/
namespace Xi
open PySem PySem.Spec PyProof.Rows L2
/-- a block of a comprehension -/
def IsBlk (X : Cx) (scope : Scope) (Y : Cx) : Prop := ∃ (s : Shared) (H : Hp) (C : Addr) (cl : List (Str × Addr)) (fp : List Addr), Y = X.blk s H scope (compEnvC scope cl C X.env) fp
def wg' (X : Cx) (scope : Scope) (tg : Expr) : TG := fun v σ H Q => ∀ Y, IsBlk X scope Y → wg Y tg v σ H Q
def we' (X : Cx) (scope : Scope) (e : Expr) : TE := fun σ H Q => ∀ Y, IsBlk X scope Y → we Y e σ H Q
def wt' (X : Cx) (scope : Scope) (ifs : List Expr) : TT := match ifs with
  | [] => tYes
  | [c] => fun σ H Q => ∀ Y, IsBlk X scope Y → wt Y c σ H Q
  | _ => fun _ _ _ => False
/-- the tests of a comprehension: none or one -/
def kf (X : Cx) (H0 : Hp) (M : Addr → Prop) (ifs : List Expr) (σ : L2.St) (L : LL) (Q : Bool → LL → Prop) : Prop := match ifs with
  | [] => Q true L
  | [c] => kt X H0 M c σ L Q
  | _ => False
theorem kf_mono {X : Cx} {H0 : Hp} {M : Addr → Prop} {σ : L2.St} {L : LL} {Q Q' : Bool → LL → Prop} : ∀ {ifs : List Expr}, kf X H0 M ifs σ L Q → (∀ b L1, Q b L1 → Q' b L1) → kf X H0 M ifs σ L Q'
  | [], h, k => k true L h
  | [_], h, k => fun H z => wt_mono (h H z) fun b H1 ⟨L1, z1, q⟩ => ⟨L1, z1, k b L1 q⟩
  | _ :: _ :: _, h, _ => h.elim
section
variable {X : Cx} {elt tg iter : Expr} {ifs : List Expr} {scope : Scope} {own : List (Str × Nat)} {pos : Pos} {H0 : Hp} {M : Addr → Prop} {L : LL} {σ : L2.St} {Q : V → LL → Prop}
theorem pts_wt' {s : Shared} {H : Hp} {C : Addr} {cl : List (Str × Addr)} {fp : List Addr} : ∀ ifs, PTs (X.blk s H scope (compEnvC scope cl C X.env) fp) ifs (wt' X scope ifs)
  | [] => pts_nil
  | [_] => pts_one ⟨fun pins s' σ H' Q I h => h _ ⟨s, H, C, cl, fp, rfl⟩ pins s' I⟩
  | _ :: _ :: _ => ⟨fun _ _ _ _ _ _ h => h.elim⟩
theorem wt'_up {H : Hp} {Q : Bool → LL → Prop} {R : Bool → Hp → Prop} (z : Hs H0 M L H) : ∀ {ifs : List Expr}, (∀ Y, IsBlk X scope Y → kf Y H0 M ifs σ L Q) → (∃ Y, IsBlk X scope Y) → (∀ b L1 H1, Hs H0 M L1 H1 → Q b L1 → R b H1) → wt' X scope ifs σ H R
  | [], h, ⟨Y, hY⟩, k => k true L H z (h Y hY)
  | [_], h, _, k => fun Y hY => wt_mono (h Y hY H z) fun b H1 ⟨L1, z1, q⟩ => k b L1 H1 z1 q
  | _ :: _ :: _, h, ⟨Y, hY⟩, _ => (h Y hY).elim
/-- a comprehension's turns, the list it makes: the core of its two roads -/
def kLc (X : Cx) (H0 : Hp) (M : Addr → Prop) (elt tg iter : Expr) (ifs : List Expr) (scope : Scope) (own : List (Str × Nat)) (σ : L2.St) (L : LL) (Q : V → LL → Prop) : Prop := ∀ H, Hs H0 M L H → tLc (wi X tg iter) (wg' X scope tg) (wt' X scope ifs) (we' X scope elt) (own.map (·.2)) σ H (up H0 M Q)
theorem kl_lc (h : ki X H0 M tg iter σ L fun J L1 => ∀ D, H0 D = none → ∃ (n : Nat) (G : LL → Prop) (Y : Nat → LL → V → LL → Prop) (I : Nat → LL → Prop), Walks H0 M n G Y J ∧ I 0 ((D, .lst []) :: L1) ∧ (∀ i L, i ≤ n → I i L → G L) ∧
      (∀ i x L L', i < n → I i L → Y i L x L' → ∀ B, IsBlk X scope B → kg B H0 M tg x (wipe σ (own.map (·.2))) L' fun σ2 L2 => wipe σ2 (own.map (·.2)) = wipe σ (own.map (·.2)) ∧ ∀ B, IsBlk X scope B → kf B H0 M ifs σ2 L2 fun b L3 =>
        if b = true then ∀ B, IsBlk X scope B → ke B H0 M elt σ2 L3 fun y L4 => ∃ acc g, Spot L4 D (.lst acc) g ∧ acc.length < sizeLine ∧ ∃ L6, Sub L6 (g (.lst (acc ++ [y]))) ∧ I (i + 1) L6 else ∃ L6, Sub L6 L3 ∧ I (i + 1) L6) ∧ ∀ L, I n L → Q (.ref D) L) : kLc X H0 M elt tg iter ifs scope own σ L Q := fun H z => by
  refine wi_mono (h H z) fun J H1 ⟨L1, z1, k⟩ D nD => ?_
  obtain ⟨n, G, Y, I, w, i0, hG, st, en⟩ := k D (z1.fresh nD)
  refine ⟨fun i m H => m = n - i ∧ i ≤ n ∧ ∃ L, Hs H0 M L H ∧ I i L, ⟨n, rfl, Nat.zero_le n, _, z1.new nD, i0⟩, ?_⟩
  rintro i m H2 ⟨em, hi, L2, z2, iv⟩
  by_cases lt : i < n
  · refine .inr ⟨w.goes i L2 H2 lt (hG i L2 hi iv) z2, fun H' => ∃ L, Hs H0 M L H' ∧ I (i + 1) L, fun H' ⟨L', z', iv'⟩ => ⟨n - (i + 1), by omega, rfl, lt, L', z', iv'⟩, fun x H3 y => ?_⟩
    obtain ⟨L3, z3, y3⟩ := w.yields i L2 H2 x H3 lt (hG i L2 hi iv) z2 y
    intro B hB
    refine wg_mono (fun pins s u I r => st i x L2 L3 lt iv y3 B hB H3 z3 pins s u I r) fun σ2 H4 ⟨L4, z4, e4, q4⟩ => ⟨e4, ?_⟩
    refine wt'_up z4 q4 ⟨B, hB⟩ fun b L5 H5 z5 q5 => ?_
    cases b with
    | true =>
      rw [if_pos rfl] at q5 ⊢
      intro B' hB'
      refine we_mono (q5 B' hB' H5 z5) fun y H6 ⟨L6, z6, acc, g, sp, hl, L7, sb, iv7⟩ => ?_
      exact ⟨acc, z6.at_ _ sp.mem, hl, L7, (z6.put sp (.inl (z1.fresh nD))).sub sb, iv7⟩
    | false =>
      rw [if_neg (by decide)] at q5 ⊢
      obtain ⟨L6, sb, iv6⟩ := q5
      exact ⟨L6, z5.sub sb, iv6⟩
  · have e : i = n := by omega
    subst e
    exact .inl ⟨w.stops L2 H2 (hG _ L2 hi iv) z2, L2, z2, en L2 iv⟩
/-- as a value -/
theorem ke_kl (hc : X.calm = true) (hN : X.N.Nodup) (ok : BlkOk X.N X.env.scope scope own) (hs : ∀ x, foldedSetIterable iter X.env x = pure x) (h : kLc X H0 M elt tg iter ifs scope own σ L Q) : ke X H0 M (.ListComp elt [⟨tg, iter, ifs, 0⟩] scope pos) σ L Q := fun H z =>
  we_of (pe_lc (g := wg' X scope tg) (te := we' X scope elt) (tt := wt' X scope ifs) hc hN pi_wi ok (fun s H C cl fp => ⟨fun pins s' σ H' v u Q I r h => h _ ⟨s, H, C, cl, fp, rfl⟩ pins s' u I r⟩) (fun s H C cl fp => pts_wt' ifs)
    (fun s H C cl fp => ⟨fun pins s' σ H' Q I h => h _ ⟨s, H, C, cl, fp, rfl⟩ pins s' I⟩) hs) (h H z)
/-- as a statement: name = [..], the name a local -/
theorem ks_kl {i : Nat} {y : Str} {py spos : Pos} {nx : L2.St → LL → Prop} {rt : V → LL → Prop} {bk ct : L2.St → LL → Prop} (hc : X.calm = true) (hN : X.N.Nodup) (hy : X.N[i]? = some y) (hyl : X.env.scope.names.lookup y = some .local) (hsw : swapsWith (.ListComp elt [⟨tg, iter, ifs, 0⟩] scope pos) (some (.Name y py)) spos.line X.env = pure true) (ok : BlkOk X.N X.env.scope scope own) (hs : ∀ x, foldedSetIterable iter X.env x = pure x)
    (h : kLc X H0 M elt tg iter ifs scope own σ L fun v L1 => nx (σ.set i (some v)) L1) : ks X H0 M (.Assign [.Name y py] (.ListComp elt [⟨tg, iter, ifs, 0⟩] scope pos) spos) nx rt bk ct σ L :=
  ks_of (ps_setLc (g := wg' X scope tg) (te := we' X scope elt) (tt := wt' X scope ifs) hc hN hy hyl hsw pi_wi ok (fun s H C cl fp => ⟨fun pins s' σ H' v u Q I r h => h _ ⟨s, H, C, cl, fp, rfl⟩ pins s' u I r⟩) (fun s H C cl fp => pts_wt' ifs)
    (fun s H C cl fp => ⟨fun pins s' σ H' Q I h => h _ ⟨s, H, C, cl, fp, rfl⟩ pins s' I⟩) hs) fun H z => h H z
end
/-- the body goes on in the block: Nb the names it reads, No those it stores -/
theorem Body.blk {X Y : Cx} {P : Program} {w : World} {K : PySem.W.Frag} {mg : Str → Option Value} {base : Heap} {k : Nat} {N Nv Nb : List Str} {sc scope : Scope} (bd : Body X P w K mg base k N Nv sc) (hB : IsBlk X scope Y) (vis : ∀ x ∈ Nb, (relS scope sc).names.lookup x = some .local ∨ (relS scope sc).names.lookup x = some .cell ∨ (relS scope sc).names.lookup x = some .free) (pl : ∀ x ∈ Nb, (x == ("__debug__" : Str)) = false ∧ (x == ("__classdict__" : Str)) = false) : Body Y P w K mg base k N Nb (relS scope sc) := by
  obtain ⟨s, H, C, cl, fp, rfl⟩ := hB
  have e : (compEnvC scope cl C X.env).scope = relS scope sc := by rw [← bd.scope]; rfl
  refine ⟨bd.prog, bd.w, bd.K, bd.mg, bd.base, bd.room, bd.gd, ⟨bd.nm.eq, fun x hx => ?_, pl⟩, e, bd.calm, PassesOwn.never⟩
  show Vis (compEnvC scope cl C X.env).scope x
  rw [e]
  exact vis x hx
theorem Ns.blk {X Y : Cx} {P : Program} {w : World} {K : PySem.W.Frag} {mg : Str → Option Value} {base : Heap} {k : Nat} {N Nv No Nw : List Str} {sc scope : Scope} (bd : Body X P w K mg base k N Nv sc) (ns : Ns X N Nw) (hB : IsBlk X scope Y) (lc : ∀ x ∈ No, (relS scope sc).names.lookup x = some .local) : Ns Y N No := by
  obtain ⟨s, H, C, cl, fp, rfl⟩ := hB
  have e : (compEnvC scope cl C X.env).scope = relS scope sc := by rw [← bd.scope]; rfl
  refine ⟨ns.eq, ns.nd, fun x hx => ⟨.inl ?_, .inr ?_⟩⟩
  · show (compEnvC scope cl C X.env).scope.names.lookup x = _
    rw [e]; exact lc x hx
  · show (compEnvC scope cl C X.env).scope.names.lookup x = _
    rw [e]; exact lc x hx
theorem Body.kl {X : Cx} {elt tg iter : Expr} {ifs : List Expr} {scope : Scope} {H0 : Hp} {M : Addr → Prop} {L : LL} {σ : L2.St} {Q : V → LL → Prop} {P : Program} {w : World} {K : PySem.W.Frag} {mg : Str → Option Value} {base : Heap} {k : Nat} {N Nv Nw : List Str} {sc : Scope} (bd : Body X P w K mg base k N Nv sc) (ns : Ns X N Nw) (own : List (Str × Nat)) (Nb No : List Str) (vis : ∀ x ∈ Nb, (relS scope sc).names.lookup x = some .local ∨ (relS scope sc).names.lookup x = some .cell ∨ (relS scope sc).names.lookup x = some .free) (pl : ∀ x ∈ Nb, (x == ("__debug__" : Str)) = false ∧ (x == ("__classdict__" : Str)) = false) (lc : ∀ x ∈ No, (relS scope sc).names.lookup x = some .local) 
    (h : ki X H0 M tg iter σ L fun J L1 => ∀ D, H0 D = none → ∃ (n : Nat) (G : LL → Prop) (Y : Nat → LL → V → LL → Prop) (I : Nat → LL → Prop), Walks H0 M n G Y J ∧ I 0 ((D, .lst []) :: L1) ∧ (∀ i L, i ≤ n → I i L → G L) ∧
      (∀ i x L L', i < n → I i L → Y i L x L' → ∀ B, Body B P w K mg base k N Nb (relS scope sc) → Ns B N No → kg B H0 M tg x (wipe σ (own.map (·.2))) L' fun σ2 L2 => wipe σ2 (own.map (·.2)) = wipe σ (own.map (·.2)) ∧ ∀ B, Body B P w K mg base k N Nb (relS scope sc) → kf B H0 M ifs σ2 L2 fun b L3 =>
        if b = true then ∀ B, Body B P w K mg base k N Nb (relS scope sc) → ke B H0 M elt σ2 L3 fun y L4 => ∃ acc g, Spot L4 D (.lst acc) g ∧ acc.length < sizeLine ∧ ∃ L6, Sub L6 (g (.lst (acc ++ [y]))) ∧ I (i + 1) L6 else ∃ L6, Sub L6 L3 ∧ I (i + 1) L6) ∧ ∀ L, I n L → Q (.ref D) L) :
    kLc X H0 M elt tg iter ifs scope own σ L Q := by
  refine kl_lc fun H z => ?_
  refine wi_mono (h H z) fun J H1 ⟨L1, z1, k⟩ => ⟨L1, z1, fun D nD => ?_⟩
  obtain ⟨n, G, Y, I, w', i0, hG, st, en⟩ := k D nD
  refine ⟨n, G, Y, I, w', i0, hG, fun i x L L' hi iv y B hB H z pins s u I r => ?_, en⟩
  have b1 := bd.blk hB vis pl
  refine wg_mono (fun pins s u I r => st i x L L' hi iv y B b1 (Ns.blk bd ns hB lc) H z pins s u I r) (fun σ2 H2 ⟨L2, z2, e2, q2⟩ => ?_) pins s u I r
  exact ⟨L2, z2, e2, fun B hB => kf_mono (q2 B (bd.blk hB vis pl)) fun b L3 q3 => by
    cases b with
    | true => rw [if_pos rfl] at q3 ⊢; exact fun B hB => q3 B (bd.blk hB vis pl)
    | false => exact q3⟩
theorem Body.lc {X : Cx} {elt tg iter : Expr} {ifs : List Expr} {scope : Scope} {pos : Pos} {H0 : Hp} {M : Addr → Prop} {L : LL} {σ : L2.St} {Q : V → LL → Prop} {P : Program} {w : World} {K : PySem.W.Frag} {mg : Str → Option Value} {base : Heap} {k : Nat} {N Nv Nw : List Str} {sc : Scope} (bd : Body X P w K mg base k N Nv sc) (ns : Ns X N Nw) (own : List (Str × Nat)) (Nb No : List Str) (ok : BlkOk N sc scope own) (vis : ∀ x ∈ Nb, (relS scope sc).names.lookup x = some .local ∨ (relS scope sc).names.lookup x = some .cell ∨ (relS scope sc).names.lookup x = some .free) (pl : ∀ x ∈ Nb, (x == ("__debug__" : Str)) = false ∧ (x == ("__classdict__" : Str)) = false) (lc : ∀ x ∈ No, (relS scope sc).names.lookup x = some .local) (hs : ∀ x, foldedSetIterable iter X.env x = pure x)
    (h : ki X H0 M tg iter σ L fun J L1 => ∀ D, H0 D = none → ∃ (n : Nat) (G : LL → Prop) (Y : Nat → LL → V → LL → Prop) (I : Nat → LL → Prop), Walks H0 M n G Y J ∧ I 0 ((D, .lst []) :: L1) ∧ (∀ i L, i ≤ n → I i L → G L) ∧
      (∀ i x L L', i < n → I i L → Y i L x L' → ∀ B, Body B P w K mg base k N Nb (relS scope sc) → Ns B N No → kg B H0 M tg x (wipe σ (own.map (·.2))) L' fun σ2 L2 => wipe σ2 (own.map (·.2)) = wipe σ (own.map (·.2)) ∧ ∀ B, Body B P w K mg base k N Nb (relS scope sc) → kf B H0 M ifs σ2 L2 fun b L3 =>
        if b = true then ∀ B, Body B P w K mg base k N Nb (relS scope sc) → ke B H0 M elt σ2 L3 fun y L4 => ∃ acc g, Spot L4 D (.lst acc) g ∧ acc.length < sizeLine ∧ ∃ L6, Sub L6 (g (.lst (acc ++ [y]))) ∧ I (i + 1) L6 else ∃ L6, Sub L6 L3 ∧ I (i + 1) L6) ∧ ∀ L, I n L → Q (.ref D) L) :
    ke X H0 M (.ListComp elt [⟨tg, iter, ifs, 0⟩] scope pos) σ L Q :=
  ke_kl bd.calm (by rw [ns.eq]; exact ns.nd) (by rw [ns.eq, bd.scope]; exact ok) hs (Body.kl bd ns own Nb No vis pl lc h)
/-- name = [..] -/
theorem Body.setKl {X : Cx} {elt tg iter : Expr} {ifs : List Expr} {scope : Scope} {pos py spos : Pos} {H0 : Hp} {M : Addr → Prop} {L : LL} {σ : L2.St} {P : Program} {w : World} {K : PySem.W.Frag} {mg : Str → Option Value} {base : Heap} {k : Nat} {N Nv Nw : List Str} {sc : Scope} {y : Str} {own : List (Str × Nat)} {nx : L2.St → LL → Prop} {rt : V → LL → Prop} {bk ct : L2.St → LL → Prop} (bd : Body X P w K mg base k N Nv sc) (ns : Ns X N Nw) (my : y ∈ N) (hy : sc.names.lookup y = some .local) (hk : sc.kind = .function) (hl : (py.line == pos.line) = true) (ha : (scope.names.any fun (n, k) => n == y && (k == .local || k == .cell)) = false) (ok : BlkOk N sc scope own) (hs : ∀ x, foldedSetIterable iter X.env x = pure x)
    (h : kLc X H0 M elt tg iter ifs scope own σ L fun v L1 => Pq N σ y v fun σ' => nx σ' L1) : ks X H0 M (.Assign [.Name y py] (.ListComp elt [⟨tg, iter, ifs, 0⟩] scope pos) spos) nx rt bk ct σ L := by
  obtain ⟨i, hi⟩ := List.getElem?_of_mem my
  rw [← ns.eq] at hi
  have hy' : X.env.scope.names.lookup y = some .local := by rw [bd.scope]; exact hy
  refine ks_kl bd.calm (by rw [ns.eq]; exact ns.nd) hi hy' (sw_true (by rw [bd.scope]; exact hk) hy' hl ha) (by rw [ns.eq, bd.scope]; exact ok) hs fun H z => ?_
  refine wi_mono (h H z) fun J H1 q D nD => ?_
  obtain ⟨W, w0, turn⟩ := q D nD
  refine ⟨W, w0, fun i m H2 wv => (turn i m H2 wv).imp (fun ⟨st, L1, z1, σ', p, q⟩ => ⟨st, L1, z1, ?_⟩) id⟩
  dsimp only
  rw [ns.ix hi p]
  exact q
theorem kf_nil {X : Cx} {H0 : Hp} {M : Addr → Prop} {σ : L2.St} {L : LL} {Q : Bool → LL → Prop} (h : Q true L) : kf X H0 M [] σ L Q := h
theorem kf_one {X : Cx} {H0 : Hp} {M : Addr → Prop} {σ : L2.St} {L : LL} {Q : Bool → LL → Prop} {c : Expr} (h : kt X H0 M c σ L Q) : kf X H0 M [c] σ L Q := h
theorem take_snoc {α : Type} {xs : List α} {i : Nat} {x : α} (h : xs[i]? = some x) : xs.take (i + 1) = xs.take i ++ [x] := by
  rw [List.take_add_one, h]; rfl
end Xi

/-! ## Num -/
/-! Whole numbers: departures, arrivals, sums of lines. -/
namespace Xi
/-- the first departure from p on -/
abbrev dep (e t p : Int) : Int := p + (t - p) % e
abbrev arr (e t r p : Int) : Int := p + (t - p) % e + r
abbrev lat (e t r p : Int) : Int := p - r - (p - r - t) % e
theorem dep_ge {e t p : Int} (h : 0 < e) : p ≤ dep e t p := by have := Int.emod_nonneg (t - p) (b := e) (by omega); show p ≤ p + _; omega
theorem dep_lt {e t p : Int} (h : 0 < e) : dep e t p < p + e := by have := Int.emod_lt_of_pos (t - p) h; show p + _ < _; omega
theorem dep_on (e t p : Int) : e ∣ (dep e t p - t) := ⟨-((t - p) / e), by have := Int.mul_ediv_add_emod (t - p) e; show p + _ - t = _; rw [Int.mul_neg]; omega⟩
theorem dvd_lt {e y : Int} (hd : e ∣ y) (h : -e < y) (h0 : 0 < e) : 0 ≤ y := by
  obtain ⟨k, rfl⟩ := hd
  have : -1 < k := by
    by_cases q : -1 < k
    · exact q
    · have := Int.mul_le_mul_of_nonneg_left (show k ≤ -1 by omega) (Int.le_of_lt h0)
      omega
  exact Int.mul_nonneg (Int.le_of_lt h0) (by omega)
theorem dvd_zero {e y : Int} (hd : e ∣ y) (h : -e < y) (h1 : y < e) : y = 0 := by
  have h0 : 0 < e := by omega
  have a := dvd_lt hd h h0
  have b := dvd_lt (Int.dvd_neg.mpr hd) (by omega) h0
  omega
theorem dvd_gap {e y : Int} (hd : e ∣ y) (h : y < e) (h0 : 0 < e) : y ≤ 0 := by
  have := dvd_lt (Int.dvd_neg.mpr hd) (by omega) h0
  omega
/-- what a departure is -/
theorem dep_uniq {e t p x : Int} (hd : e ∣ (x - t)) (h1 : p ≤ x) (h2 : x < p + e) : dep e t p = x := by
  have h0 : 0 < e := by omega
  have a := dep_ge (t := t) (p := p) h0
  have b := dep_lt (t := t) (p := p) h0
  have c := Int.dvd_sub (dep_on e t p) hd
  have := dvd_zero c (by omega) (by omega)
  omega
theorem lat_le {e t r p : Int} (h : 0 < e) : lat e t r p ≤ p - r := by have := Int.emod_nonneg (p - r - t) (b := e) (by omega); show p - r - _ ≤ _; omega
theorem lat_gt {e t r p : Int} (h : 0 < e) : p - r - e < lat e t r p := by have := Int.emod_lt_of_pos (p - r - t) h; show _ < p - r - _; omega
theorem lat_on (e t r p : Int) : e ∣ (lat e t r p - t) := ⟨(p - r - t) / e, by have := Int.mul_ediv_add_emod (p - r - t) e; show p - r - _ - t = _; omega⟩
theorem lat_uniq {e t r p x : Int} (hd : e ∣ (x - t)) (h1 : x ≤ p - r) (h2 : p - r - e < x) : lat e t r p = x := by
  have h0 : 0 < e := by omega
  have a := lat_le (t := t) (r := r) (p := p) h0
  have b := lat_gt (t := t) (r := r) (p := p) h0
  have c := Int.dvd_sub (lat_on e t r p) hd
  have := dvd_zero c (by omega) (by omega)
  omega
theorem emod_dvd_sub (a e : Int) : e ∣ (a - a % e) := ⟨a / e, by have := Int.mul_ediv_add_emod a e; omega⟩
theorem dvd_neg_sub {e x y : Int} (h : e ∣ (x - y)) : e ∣ (y - x) := by
  have := Int.dvd_neg.mpr h
  rwa [Int.neg_sub] at this
/-! ### the sum of two lines -/
def addW (e t r f u : Int) : Int := (u - t - r) % (if f < e then f else e)
def addE (e f : Int) : Int := if f ≤ e then e else f
def addT (e t r f u : Int) : Int := if f ≤ e then t else (u - addW e t r f u - r) % f
def addR (e t r f u s : Int) : Int := r + addW e t r f u + s
section
variable {e t r f u s p : Int}
theorem addW_rng (he : 0 < e) (hf : 0 < f) : 0 ≤ addW e t r f u ∧ addW e t r f u < e ∧ addW e t r f u < f := by
  unfold addW
  split
  · have a := Int.emod_nonneg (u - t - r) (b := f) (by omega)
    have b := Int.emod_lt_of_pos (u - t - r) hf
    omega
  · have a := Int.emod_nonneg (u - t - r) (b := e) (by omega)
    have b := Int.emod_lt_of_pos (u - t - r) he
    omega
theorem fit_le (he : 0 < e) (hf : 0 < f) (fit : e ∣ f ∨ f ∣ e) (h : f ≤ e) : f ∣ e := by
  rcases fit with q | q
  · have := Int.le_of_dvd hf q
    have e2 : e = f := by omega
    rw [e2]; exact Int.dvd_refl _
  · exact q
theorem addW_dvd (he : 0 < e) (hf : 0 < f) (fit : e ∣ f ∨ f ∣ e) : (f ≤ e → f ∣ (u - t - r - addW e t r f u)) ∧ (¬ f ≤ e → e ∣ (u - t - r - addW e t r f u)) := by
  refine ⟨fun h => ?_, fun h => ?_⟩
  · unfold addW
    split
    · exact emod_dvd_sub _ _
    · have e2 : e = f := by omega
      rw [e2]; exact emod_dvd_sub _ _
  · unfold addW
    rw [if_neg (by omega)]
    exact emod_dvd_sub _ _
theorem add_arr (he : 0 < e) (hf : 0 < f) (fit : e ∣ f ∨ f ∣ e) : arr (addE e f) (addT e t r f u) (addR e t r f u s) p = arr f u s (arr e t r p) := by
  have W := addW_rng (e := e) (t := t) (r := r) (f := f) (u := u) he hf
  have D := addW_dvd (t := t) (r := r) (u := u) he hf fit
  have d1 := dep_ge (t := t) (p := p) he
  have d2 := dep_lt (t := t) (p := p) he
  have d3 := dep_on e t p
  show dep _ _ p + addR e t r f u s = dep f u (dep e t p + r) + s
  unfold addE addT addR
  by_cases h : f ≤ e
  · rw [if_pos h, if_pos h]
    have q := fit_le he hf fit h
    have D1 := D.1 h
    have : dep f u (dep e t p + r) = dep e t p + r + addW e t r f u := by
      refine dep_uniq ?_ (by omega) (by omega)
      have := Int.dvd_sub (Int.dvd_trans q d3) D1
      rw [show dep e t p - t - (u - t - r - addW e t r f u) = dep e t p + r + addW e t r f u - u by omega] at this
      exact this
    rw [this]; omega
  · rw [if_neg h, if_neg h]
    have q : e ∣ f := by
      rcases fit with q | q
      · exact q
      · have := Int.le_of_dvd he q
        omega
    have D2 := D.2 h
    generalize addW e t r f u = w at *
    have g1 := dep_ge (t := u) (p := dep e t p + r) hf
    have g2 := dep_lt (t := u) (p := dep e t p + r) hf
    have g3 := dep_on f u (dep e t p + r)
    generalize dep f u (dep e t p + r) = G at *
    generalize dep e t p = d at *
    -- G - r - w is a departure of e, too
    have k1 : e ∣ (G - r - w - d) := by
      have a := Int.dvd_sub (Int.dvd_add (Int.dvd_trans q g3) D2) d3
      rw [show G - u + (u - t - r - w) - (d - t) = G - r - w - d by omega] at a
      exact a
    have k2 := dvd_lt k1 (by omega) he
    have k3 : G - r - w - d - (f - e) ≤ 0 := by
      refine dvd_gap (Int.dvd_sub k1 (Int.dvd_sub q (Int.dvd_refl e))) (by omega) he
    have : dep f ((u - w - r) % f) p = G - r - w := by
      refine dep_uniq ?_ (by omega) (by omega)
      have a := Int.dvd_add g3 (emod_dvd_sub (u - w - r) f)
      rw [show G - u + (u - w - r - (u - w - r) % f) = G - r - w - (u - w - r) % f by omega] at a
      exact a
    rw [this]; omega
theorem add_rng (he : 0 < e) (hf : 0 < f) (ht : 0 ≤ t) (ht2 : t < e) (hr : 0 ≤ r) (hs : 0 ≤ s) : 0 < addE e f ∧ 0 ≤ addT e t r f u ∧ addT e t r f u < addE e f ∧ 0 ≤ addR e t r f u s := by
  have W := addW_rng (e := e) (t := t) (r := r) (f := f) (u := u) he hf
  unfold addE addT addR
  by_cases h : f ≤ e
  · rw [if_pos h, if_pos h]; omega
  · rw [if_neg h, if_neg h]
    have a := Int.emod_nonneg (u - addW e t r f u - r) (b := f) (by omega)
    have b := Int.emod_lt_of_pos (u - addW e t r f u - r) hf
    omega
end
theorem dep_self {e t : Int} : dep e t t = t := by
  show t + (t - t) % e = t
  rw [Int.sub_self, Int.zero_emod]; omega
theorem dep_of_dvd {e t p : Int} (h : e ∣ (p - t)) : dep e t p = p := by
  show p + (t - p) % e = p
  rw [Int.emod_eq_zero_of_dvd (dvd_neg_sub h)]; omega
theorem dep_next {e t p : Int} (he : 0 < e) (h : e ∣ (p - t)) : dep e t (p + 1) = p + e := by
  refine dep_uniq ?_ (by omega) (by omega)
  have := Int.dvd_add h (Int.dvd_refl e)
  rw [show p - t + e = p + e - t by omega] at this
  exact this
/-- two lines with the same arrivals are one -/
theorem arr_inj {e t r f u s : Int} (he : 0 < e) (ht : 0 ≤ t) (ht2 : t < e) (hf : 0 < f) (hu : 0 ≤ u) (hu2 : u < f) (h : ∀ p, arr e t r p = arr f u s p) : e = f ∧ t = u ∧ r = s := by
  have h1 : dep e t t + r = dep f u t + s := h t
  have h2 : dep e t u + r = dep f u u + s := h u
  rw [dep_self] at h1 h2
  have a := dep_ge (t := u) (p := t) hf
  have b := dep_ge (t := t) (p := u) he
  have rs : r = s := by omega
  have d1 : dep f u t = t := by omega
  have d2 : dep e t u = u := by omega
  have k1 := dep_on f u t
  rw [d1] at k1
  have k2 := dep_on e t u
  rw [d2] at k2
  have h3 : dep e t (t + 1) + r = dep f u (t + 1) + s := h (t + 1)
  rw [dep_next he (by rw [Int.sub_self]; exact Int.dvd_zero e), dep_next hf k1] at h3
  have ef : e = f := by omega
  subst ef
  have := dvd_zero k1 (by omega) (by omega)
  exact ⟨rfl, by omega, rs⟩
/-! ### many rounds, lines backward, never later -/
def mulR (e r n : Int) : Int := n * r + (n - 1) * ((-r) % e)
theorem neg_rng {e r : Int} (he : 0 < e) : 0 ≤ (-r) % e ∧ (-r) % e < e := ⟨Int.emod_nonneg _ (by omega), Int.emod_lt_of_pos _ he⟩
/-- r and its wait: whole headways -/
def whole (e r : Int) : Int := r + (-r) % e
theorem whole_dvd (e r : Int) : e ∣ whole e r := by
  have := dvd_neg_sub (emod_dvd_sub (-r) e)
  rw [show (-r) % e - (-r) = whole e r by unfold whole; omega] at this
  exact this
theorem mulR_whole (e r n : Int) : mulR e r n = n * whole e r - (-r) % e := by
  unfold mulR whole
  rw [Int.mul_add, Int.sub_mul, Int.one_mul]; omega
theorem mulR_one (e r : Int) : mulR e r 1 = r := by
  unfold mulR
  rw [Int.one_mul, Int.sub_self, Int.zero_mul]; omega
theorem mulR_rng {e r n : Int} (he : 0 < e) (hr : 0 ≤ r) (hn : 1 ≤ n) : 0 ≤ mulR e r n := by
  unfold mulR
  have a := neg_rng (r := r) he
  have b := Int.mul_nonneg (show 0 ≤ n by omega) hr
  have c := Int.mul_nonneg (show 0 ≤ n - 1 by omega) a.1
  omega
theorem mulR_le {e r n N A : Int} (he : 0 < e) (hr : 0 ≤ r) (hn : 1 ≤ n) (hN : n ≤ N) (h1 : r ≤ A) (h2 : e ≤ A) : mulR e r n ≤ N * A + N * A := by
  unfold mulR
  have a := neg_rng (r := r) he
  have b := Int.mul_le_mul hN h1 hr (by omega)
  have c := Int.mul_le_mul (show n - 1 ≤ N by omega) (show (-r) % e ≤ A by omega) a.1 (by omega)
  omega
theorem emod_neg_whole {e r n : Int} (he : 0 < e) : (-(mulR e r n)) % e = (-r) % e := by
  obtain ⟨k, hk⟩ := whole_dvd e r
  have a := neg_rng (r := r) he
  rw [mulR_whole, hk, show -(n * (e * k) - (-r) % e) = (-r) % e + e * (-(n * k)) by rw [Int.mul_neg, Int.mul_left_comm]; omega, Int.add_mul_emod_self_left, Int.emod_eq_of_lt a.1 a.2]
/-- rounds and rounds -/
theorem addW_self {e t r u : Int} : addW e t r e u = (u - t - r) % e := by unfold addW; rw [if_neg (by omega)]
theorem add_mulR {e t r m n : Int} (he : 0 < e) : addE e e = e ∧ addT e t (mulR e r m) e t = t ∧ addR e t (mulR e r m) e t (mulR e r n) = mulR e r (m + n) := by
  refine ⟨by unfold addE; simp, by unfold addT; simp, ?_⟩
  unfold addR
  rw [addW_self, show t - t - mulR e r m = -(mulR e r m) by omega, emod_neg_whole he, mulR_whole, mulR_whole, mulR_whole, Int.add_mul]
  omega
theorem mulR_mulR {e r m n : Int} (he : 0 < e) : mulR e (mulR e r m) n = mulR e r (n * m) := by
  rw [mulR_whole e (mulR e r m), mulR_whole e r (n * m), emod_neg_whole he]
  have : whole e (mulR e r m) = m * whole e r := by
    unfold whole
    rw [emod_neg_whole he]
    have := mulR_whole e r m
    unfold whole at this
    omega
  rw [this, Int.mul_assoc]
theorem ceil_whole (e r : Int) : -((-r) / e) * e = whole e r := by
  unfold whole
  have := Int.mul_ediv_add_emod (-r) e
  rw [Int.neg_mul, Int.mul_comm]; omega
theorem arr_mulR {e t r n p : Int} (he : 0 < e) : arr e t (mulR e r (n + 1)) p = arr e t r (arr e t (mulR e r n) p) := by
  obtain ⟨a, b, c⟩ := add_mulR (t := t) (r := r) (m := n) (n := 1) he
  rw [mulR_one] at c
  have := add_arr (e := e) (t := t) (r := mulR e r n) (f := e) (u := t) (s := r) (p := p) he he (.inl (Int.dvd_refl e))
  rw [a, b, c] at this
  exact this
/-- the opposite direction of time -/
def backT (e t r : Int) : Int := (-t - r) % e
theorem backT_rng {e t r : Int} (he : 0 < e) : 0 ≤ backT e t r ∧ backT e t r < e := ⟨Int.emod_nonneg _ (by omega), Int.emod_lt_of_pos _ he⟩
theorem backT_dvd (e t r : Int) : e ∣ (backT e t r + t + r) := by
  have := dvd_neg_sub (emod_dvd_sub (-t - r) e)
  rw [show (-t - r) % e - (-t - r) = backT e t r + t + r by unfold backT; omega] at this
  exact this
theorem back_arr {e t r p : Int} (he : 0 < e) : arr e (backT e t r) r p = -(lat e t r (-p)) := by
  have a := lat_le (t := t) (r := r) (p := -p) he
  have b := lat_gt (t := t) (r := r) (p := -p) he
  have c := lat_on e t r (-p)
  have d := backT_dvd e t r
  have : dep e (backT e t r) p = -(lat e t r (-p)) - r := by
    refine dep_uniq ?_ (by omega) (by omega)
    have := Int.dvd_neg.mpr (Int.dvd_add c d)
    rw [show -(lat e t r (-p) - t + (backT e t r + t + r)) = -(lat e t r (-p)) - r - backT e t r by omega] at this
    exact this
  show dep e (backT e t r) p + r = _
  rw [this]; omega
theorem back_lat {e t r p : Int} (he : 0 < e) : lat e (backT e t r) r p = -(arr e t r (-p)) := by
  have a := dep_ge (t := t) (p := -p) he
  have b := dep_lt (t := t) (p := -p) he
  have c := dep_on e t (-p)
  have d := backT_dvd e t r
  refine lat_uniq ?_ (by show -(dep e t (-p) + r) ≤ _; omega) (by show _ < -(dep e t (-p) + r); omega)
  have := Int.dvd_neg.mpr (Int.dvd_add c d)
  rw [show -(dep e t (-p) - t + (backT e t r + t + r)) = -(dep e t (-p) + r) - backT e t r by omega] at this
  exact this
theorem back_back {e t r : Int} (he : 0 < e) (h0 : 0 ≤ t) (h1 : t < e) : backT e (backT e t r) r = t := by
  have a := backT_rng (t := backT e t r) (r := r) he
  have b := backT_dvd e t r
  have c := backT_dvd e (backT e t r) r
  have := Int.dvd_sub c b
  rw [show backT e (backT e t r) r + backT e t r + r - (backT e t r + t + r) = backT e (backT e t r) r - t by omega] at this
  have := dvd_zero this (by omega) (by omega)
  omega
/-- never later -/
def laterL (e f : Int) : Int := if f < e then f else e
def laterB (e t r f u s : Int) : Bool := decide (e - laterL e f + (t - u) % laterL e f + r ≤ s)
theorem later_iff {e t r f u s : Int} (he : 0 < e) (hf : 0 < f) (fit : e ∣ f ∨ f ∣ e) : laterB e t r f u s = true ↔ ∀ p, arr e t r p ≤ arr f u s p := by
  unfold laterB
  rw [decide_eq_true_iff]
  have hl : 0 < laterL e f := by unfold laterL; split <;> omega
  have le : laterL e f ∣ e ∧ laterL e f ∣ f ∧ laterL e f ≤ e := by
    unfold laterL
    split
    · rename_i h
      exact ⟨fit_le he hf fit (by omega), Int.dvd_refl f, by omega⟩
    · rename_i h
      refine ⟨Int.dvd_refl e, ?_, Int.le_refl e⟩
      rcases fit with q | q
      · exact q
      · have := Int.le_of_dvd he q
        rw [show f = e by omega]; exact Int.dvd_refl e
  obtain ⟨de, df, lle⟩ := le
  have heq : laterL e f = f ∨ laterL e f = e := by unfold laterL; split <;> simp
  generalize laterL e f = l at *
  have m1 := Int.emod_nonneg (t - u) (b := l) (by omega)
  have m2 := Int.emod_lt_of_pos (t - u) hl
  have m3 := emod_dvd_sub (t - u) l
  generalize (t - u) % l = m at *
  constructor
  · intro h p
    have a1 := dep_ge (t := t) (p := p) he
    have a2 := dep_lt (t := t) (p := p) he
    have a3 := dep_on e t p
    have b1 := dep_ge (t := u) (p := p) hf
    have b3 := dep_on f u p
    show dep e t p + r ≤ dep f u p + s
    -- both departures: their difference is m modulo l, less than e from below
    have k := Int.dvd_sub (Int.dvd_sub (Int.dvd_trans de a3) (Int.dvd_trans df b3)) (Int.dvd_neg.mpr m3)
    rw [show dep e t p - t - (dep f u p - u) - -(t - u - m) = dep e t p - dep f u p - m by omega] at k
    have k2 : dep e t p - dep f u p - m - (e - l) ≤ 0 := dvd_gap (Int.dvd_sub k (Int.dvd_sub de (Int.dvd_refl l))) (by omega) hl
    omega
  · intro h
    -- a start at which the other one departs and this one waits the longest
    obtain ⟨x, hx1, hx2⟩ : ∃ x, f ∣ (x - u) ∧ dep e t x = x + (e - l + m) := by
      rcases heq with q | q
      · subst q
        obtain ⟨j, hj⟩ := m3
        obtain ⟨i, hi⟩ := de
        refine ⟨t - (e - l + m), ⟨j - i + 1, by rw [Int.mul_add, Int.mul_sub, ← hj, ← hi]; omega⟩, ?_⟩
        refine dep_uniq ⟨0, by omega⟩ (by omega) (by omega)
      · subst q
        refine ⟨u, ⟨0, by omega⟩, dep_uniq ?_ (by omega) (by omega)⟩
        have := Int.dvd_neg.mpr m3
        rw [show -(t - u - m) = u + (l - l + m) - t by omega] at this
        exact this
    have := h x
    have e1 : dep e t x + r ≤ dep f u x + s := this
    rw [dep_of_dvd hx1, hx2] at e1
    omega
/-! ### arrivals and latest starts -/
theorem galois {e t r p q : Int} (he : 0 < e) : arr e t r p ≤ q ↔ p ≤ lat e t r q := by
  have a1 := dep_ge (t := t) (p := p) he
  have a2 := dep_lt (t := t) (p := p) he
  have a3 := dep_on e t p
  have b1 := lat_le (t := t) (r := r) (p := q) he
  have b2 := lat_gt (t := t) (r := r) (p := q) he
  have b3 := lat_on e t r q
  show dep e t p + r ≤ q ↔ _
  have k := Int.dvd_sub a3 b3
  rw [show dep e t p - t - (lat e t r q - t) = dep e t p - lat e t r q by omega] at k
  constructor
  · intro h
    have := dvd_gap k (by omega) he
    omega
  · intro h
    have := dvd_gap k (by omega) he
    omega
theorem lat_add {e t r f u s q : Int} (he : 0 < e) (hf : 0 < f) (fit : e ∣ f ∨ f ∣ e) : lat (addE e f) (addT e t r f u) (addR e t r f u s) q = lat e t r (lat f u s q) := by
  have hE : 0 < addE e f := by unfold addE; split <;> omega
  have key : ∀ p, p ≤ lat (addE e f) (addT e t r f u) (addR e t r f u s) q ↔ p ≤ lat e t r (lat f u s q) := fun p => by
    rw [← galois hE, add_arr he hf fit, galois hf, galois he]
  have a := (key (lat (addE e f) (addT e t r f u) (addR e t r f u s) q)).mp (Int.le_refl _)
  have b := (key (lat e t r (lat f u s q))).mpr (Int.le_refl _)
  omega
theorem back_add {e t r f u s : Int} (he : 0 < e) (h1 : 0 ≤ t) (h2 : t < e) (hf : 0 < f) (h3 : 0 ≤ u) (h4 : u < f) (hr : 0 ≤ r) (hs : 0 ≤ s) (fit : e ∣ f ∨ f ∣ e) :
    addE e f = addE f e ∧ backT (addE e f) (addT e t r f u) (addR e t r f u s) = addT f (backT f u s) s e (backT e t r) ∧ addR e t r f u s = addR f (backT f u s) s e (backT e t r) r := by
  obtain ⟨a1, a2, a3, a4⟩ := add_rng (r := r) (u := u) (s := s) he hf h1 h2 hr hs
  have bf := backT_rng (t := u) (r := s) hf
  have be := backT_rng (t := t) (r := r) he
  obtain ⟨c1, c2, c3, c4⟩ := add_rng (e := f) (t := backT f u s) (r := s) (f := e) (u := backT e t r) (s := r) hf he bf.1 bf.2 hs hr
  have b := backT_rng (t := addT e t r f u) (r := addR e t r f u s) a1
  refine arr_inj a1 b.1 b.2 c1 c2 c3 fun p => ?_
  rw [add_arr hf he fit.symm, back_arr a1, back_arr he, back_arr hf, Int.neg_neg, lat_add he hf fit]
theorem later_back {e t r f u s : Int} (he : 0 < e) (hf : 0 < f) (fit : e ∣ f ∨ f ∣ e) : laterB e (backT e t r) r f (backT f u s) s = laterB e t r f u s := by
  rw [Bool.eq_iff_iff, later_iff he hf fit, later_iff he hf fit]
  constructor
  · intro h p
    rw [galois he]
    have := h (-(arr f u s p))
    rw [back_arr he, back_arr hf, Int.neg_neg] at this
    have k : p ≤ lat f u s (arr f u s p) := (galois hf).mp (Int.le_refl _)
    omega
  · intro h p
    rw [back_arr he, back_arr hf]
    have k : arr f u s (lat f u s (-p)) ≤ -p := (galois hf).mpr (Int.le_refl _)
    have k2 := h (lat f u s (-p))
    have : lat f u s (-p) ≤ lat e t r (-p) := (galois he).mp (by omega)
    omega
theorem back_mul {e t r n : Int} (he : 0 < e) : backT e t (mulR e r n) = backT e t r := by
  unfold backT
  have h : e ∣ ((-t - mulR e r n) - (-t - r)) := by
    rw [mulR_whole]
    have a := whole_dvd e r
    have b : e ∣ (n * whole e r) := Int.dvd_trans a ⟨n, Int.mul_comm _ _⟩
    have := Int.dvd_sub a b
    unfold whole at this ⊢
    rw [show -t - (n * (r + -r % e) - -r % e) - (-t - r) = r + -r % e - n * (r + -r % e) by omega]
    exact this
  exact Int.emod_eq_emod_iff_emod_sub_eq_zero.mpr (Int.emod_eq_zero_of_dvd h)
end Xi

/-! ## Bi -/
/-! Built-ins over lists; headways that fit. -/
namespace Xi
open PySem PySem.Spec PyProof.Rows L2
section
variable {X : Cx} {H0 : Hp} {M : Addr → Prop} {L : LL} {Q : V → LL → Prop} {a : Addr} {ns : List Int} {bs : List Bool}
theorem rc_sum (hc : X.calm = true) (ia : At L a (.lst (ns.map V.int))) (h : Q (.int ns.sum) L) : rc X H0 M (.builtin "sum") [.ref a] L Q := rc_of (cr_sum hc) fun H z => ⟨a, ns, rfl, z.sq ia, L, z, h⟩
theorem rc_maxL (hc : X.calm = true) (ia : At L a (.lst (ns.map V.int))) (h0 : 0 < ns.length) (h : ∀ m, m ∈ ns → (∀ y, y ∈ ns → y ≤ m) → Q (.int m) L) : rc X H0 M (.builtin "max") [.ref a] L Q := rc_of (cr_max hc) fun H z => ⟨a, ns, rfl, z.sq ia, h0, fun m h1 h2 => ⟨L, z, h m h1 h2⟩⟩
theorem rc_minL (hc : X.calm = true) (ia : At L a (.lst (ns.map V.int))) (h0 : 0 < ns.length) (h : ∀ m, m ∈ ns → (∀ y, y ∈ ns → m ≤ y) → Q (.int m) L) : rc X H0 M (.builtin "min") [.ref a] L Q := rc_of (cr_min hc) fun H z => ⟨a, ns, rfl, z.sq ia, h0, fun m h1 h2 => ⟨L, z, h m h1 h2⟩⟩
theorem rc_any (hc : X.calm = true) (ia : At L a (.lst (bs.map V.bl))) (h : Q (.bl (bs.any id)) L) : rc X H0 M (.builtin "any") [.ref a] L Q := rc_of (cr_any hc) fun H z => ⟨a, bs, rfl, z.sq ia, L, z, h⟩
theorem rc_all (hc : X.calm = true) (ia : At L a (.lst (bs.map V.bl))) (h : Q (.bl (bs.all id)) L) : rc X H0 M (.builtin "all") [.ref a] L Q := rc_of (cr_all hc) fun H z => ⟨a, bs, rfl, z.sq ia, L, z, h⟩
theorem rc_sortI (ia : At L a (.lst (ns.map V.int))) (h : ∀ (ns' : List Int) (p : Addr), ns'.Perm ns → ns'.Pairwise (· ≤ ·) → H0 p = none → Q (.ref p) ((p, .lst (ns'.map V.int)) :: L)) : rc X H0 M (.builtin "sorted") [.ref a] L Q :=
  rc_of cr_sortedI fun H z => ⟨a, ns, rfl, z.sq ia, fun ns' p h1 h2 n => ⟨_, z.new n, h ns' p h1 h2 (z.fresh n)⟩⟩
end
/-- headways, any two of which fit -/
abbrev FitI (a b : Int) : Prop := a ∣ b ∨ b ∣ a
theorem chain_pairwise : ∀ {xs : List Int}, (∀ x ∈ xs, 1 ≤ x) → xs.Pairwise (· ≤ ·) → ((List.zipWith (fun s g : Int => decide (g % s = 0)) xs xs.tail).all id = true ↔ xs.Pairwise FitI)
  | [], _, _ => by simp
  | [x], _, _ => by simp
  | x :: y :: r, h, so => by
    have ih := chain_pairwise (xs := y :: r) (fun z hz => h z (List.mem_cons_of_mem _ hz)) (List.pairwise_cons.mp so).2
    show ((decide (y % x = 0) :: List.zipWith _ (y :: r) r).all id = true) ↔ _
    rw [List.all_cons, Bool.and_eq_true]
    show (decide (y % x = 0) = true ∧ (List.zipWith _ (y :: r) (y :: r).tail).all id = true) ↔ _
    rw [ih, decide_eq_true_iff]
    have hx := h x List.mem_cons_self
    have hle := (List.pairwise_cons.mp so).1
    have hle2 := (List.pairwise_cons.mp (List.pairwise_cons.mp so).2).1
    constructor
    · rintro ⟨hd, hp⟩
      have d : x ∣ y := Int.dvd_of_emod_eq_zero hd
      refine List.pairwise_cons.mpr ⟨fun z hz => .inl ?_, hp⟩
      rcases List.mem_cons.mp hz with e | hz
      · rw [e]; exact d
      · rcases (List.pairwise_cons.mp hp).1 z hz with q | q
        · exact Int.dvd_trans d q
        · have hy := h y (by simp)
          have hzp := h z (by simp [hz])
          have := Int.le_of_dvd (by omega) q
          have e : z = y := Int.le_antisymm this (hle2 z hz)
          rw [e]; exact d
    · intro hq
      obtain ⟨hp, hr⟩ := List.pairwise_cons.mp hq
      refine ⟨?_, hr⟩
      rcases hp y List.mem_cons_self with q | q
      · exact Int.emod_eq_zero_of_dvd q
      · have hy := h y (by simp)
        have := Int.le_of_dvd (by omega) q
        have e : y = x := Int.le_antisymm this (hle y List.mem_cons_self)
        rw [e]; exact Int.emod_self
theorem fit_perm {xs ys : List Int} (p : xs.Perm ys) : xs.Pairwise FitI ↔ ys.Pairwise FitI := p.pairwise_iff fun h => h.symm
section
variable {X : Cx} {H0 : Hp} {M : Addr → Prop} {L : LL} {σ : L2.St} {Q : Option Int → LL → Prop} {e : Expr}
theorem ko_some (h : ke X H0 M e σ L fun x L1 => ∃ i, x = .int i ∧ Q (some i) L1) : ko X H0 M (some e) σ L Q := h
theorem ko_none (h : Q none L) : ko X H0 M none σ L Q := h
end
theorem cut_tail (xs : List V) : cutV xs (some 1) none = xs.tail := by
  cases xs with
  | nil => rfl
  | cons x r =>
    show List.take _ (List.drop _ (x :: r)) = r
    have e1 : HT.sIx (x :: r).length 0 (some 1) = 1 := by simp [HT.sIx]
    have e2 : HT.sIx (x :: r).length (x :: r).length none = (x :: r).length := by simp [HT.sIx]
    rw [e1, e2]
    show List.take ((x :: r).length - 1) r = r
    exact List.take_of_length_le (by simp)
end Xi

/-! ## Own -/
/-! Operators' methods as the top left them; isinstance with own classes; names of the module. -/
namespace Xi
open PySem PySem.Spec PyProof.Rows L2 PySem.W
theorem dn_add : PySem.dunder "add" = ("__add__" : Str) := by decide +kernel
theorem dr_add : dunderR "add" = ("__radd__" : Str) := by decide +kernel
theorem dn_mul : PySem.dunder "mul" = ("__mul__" : Str) := by decide +kernel
theorem dr_mul : dunderR "mul" = ("__rmul__" : Str) := by decide +kernel
/-- a class's name is short -/
def shortName (cd : ClassData) : Bool := decide (cd.name.cps.foldl (fun k c => k + (Str.utf8Of c).length) 0 ≤ 100) && Nat.ble (missMsg cd.name ("__radd__" : Str)).length 1000 && Nat.ble (missMsg cd.name ("__rmul__" : Str)).length 1000
theorem nm_add {cd : ClassData} (h : shortName cd = true) : (missMsg cd.name ("__radd__" : Str)).length ≤ sizeLine := by
  unfold shortName at h
  simp only [Bool.and_eq_true] at h
  exact Nat.le_trans (Nat.le_of_ble_eq_true h.1.2) (by decide)
theorem nm_mul {cd : ClassData} (h : shortName cd = true) : (missMsg cd.name ("__rmul__" : Str)).length ≤ sizeLine := by
  unfold shortName at h
  simp only [Bool.and_eq_true] at h
  exact Nat.le_trans (Nat.le_of_ble_eq_true h.2) (by decide)
theorem Fam.of {K : PySem.W.Frag} {C f : Addr} {nm : String} {x y : Str} {cd : ClassData} (e1 : PySem.dunder nm = x) (e2 : dunderR nm = y) (h1 : findIn K (.ref C) x = some (some (.ref f))) (h2 : isFn K (.ref f) = true) (h3 : selfFirst K C = true) (h4 : findIn K (.ref C) y = some none)
    (h5 : typeIn K (.ref C) = some (.type "type")) (h6 : clsIn K C = some cd) (h7 : shortName cd = true) (h8 : shortName cd = true → (missMsg cd.name y).length ≤ sizeLine) : Fam K C nm f := by
  subst e1 e2
  refine ⟨h1, h2, h3, h4, h5, cd, h6, ?_, h8 h7⟩
  unfold shortName at h7
  simp only [Bool.and_eq_true, decide_eq_true_eq] at h7
  exact h7.1.1
theorem Top0.of {K : PySem.W.Frag} {nm : String} {y : Str} (e2 : dunderR nm = y) (h1 : nsIn K cStatics "thirdparty.any" = some none) (h2 : findIn K (.type "type") y = some none) (h3 : findIn K (.type "type") "__getattribute__" = some (some (.builtin "type.__getattribute__"))) (h4 : findIn K (.type "type") "__getattr__" = some none)
    (h5 : subIn K (.type "type") (.type "type") = some true) (h6 : y.length ≤ 1000) : Top0 K nm := by
  subst e2
  exact ⟨h1, h2, h3, h4, h5, Nat.le_trans h6 (by decide)⟩
structure FunF (K : PySem.W.Frag) (Cs : Addr → Prop) (nm : String) (m qual : Str) (st : Stmt) : Prop where
  ex : ∃ f fd, Fun K m qual st f fd ∧ (∀ C, Cs C → Fam K C nm f) ∧ (∀ C D, Cs C → Cs D → ∃ b, subIn K (.ref D) (.ref C) = some b) ∧ Top0 K nm
theorem FunF.ok {P : Program} {w : World} {K : PySem.W.Frag} {mg : Str → Option Value} {base : Heap} {k : Nat} {m qual : Str} {st : Stmt} {sp : Sp} {ps : List Str} {Cs : Addr → Prop} {nm : String} (F : FunF K Cs nm m qual st) (b : ∀ f fd, Fun K m qual st f fd → Binds K fd ps [])
    (h : ∀ f fd, Fun K m qual st f fd → Fk P w K mg base CX0 k f fd ps sp) : OpT P w K mg base CX0 k Cs nm sp := by
  obtain ⟨f, fd, F, fam, sub, top⟩ := F.ex
  exact ⟨f, fd, ps, h f fd F, fam, sub, top, b f fd F⟩
/-! ### isinstance -/
structure IsK (K : PySem.W.Frag) (C : Addr) : Prop where
  ha : findIn K (.ref C) "__class__" = some (some (.builtin "object.__class__"))
  hm : mroIn K C (.type "object") = some true
structure Is0 (K : PySem.W.Frag) : Prop where
  hn : specialIn K (.builtin "object.__class__") "__get__" = some (some (.builtin "getset_descriptor.__get__"))
  ht : takesIn K (.builtin "object.__class__") = some true
section
variable {X : Cx} {H0 : Hp} {M : Addr → Prop} {L : LL} {Q : V → LL → Prop} {a C D dx : Addr} {fs : List (Str × V)} {b : Bool} {σ : L2.St} {pos : Pos}
theorem rc_isiO (ia : At L a (.ins C dx fs)) (c : Cls X.K C) (k : IsK X.K C) (z0 : Is0 X.K) (h3 : kitOne X.K (.ref C) (.ref D) = some b) (h : Q (.bl b) L) : rc X H0 M (.builtin "isinstance") [.ref a, .ref D] L Q :=
  rc_isi (.own D) (fun H z => .base (.ins (z.get ia) c k.ha z0.hn z0.ht k.hm)) h3 h
variable {P : Program} {w : World} {K : PySem.W.Frag} {mg : Str → Option Value} {base : Heap} {k : Nat} {N Nv : List Str} {sc : Scope}
/-- a class of the module, by its name -/
theorem Body.gref {x : Str} (bd : Body X P w K mg base k N Nv sc) (hm : mg x = some (.ref D)) (hg : sc.names.lookup x = some .globalImplicit) (hd : (x == ("__debug__" : Str)) = false) (h : Q (.ref D) L) : ke X H0 M (.Name x pos) σ L Q :=
  ke_c (pe_glob (v := .ref D) (bd.gl hg) (bd.no hm) rfl hd) h
theorem Body.gint {x : Str} {i : Int} (bd : Body X P w K mg base k N Nv sc) (hm : ∃ t, mg x = some (.int i t)) (hg : sc.names.lookup x = some .globalImplicit) (hd : (x == ("__debug__" : Str)) = false) (h : Q (.int i) L) : ke X H0 M (.Name x pos) σ L Q :=
  let ⟨t, hm⟩ := hm
  ke_c (pe_glob (v := .int i) (bd.gl hg) (bd.no hm) ⟨t, rfl⟩ hd) h
end
end Xi

/-! ## Nest -/
/-! repr and == of lists and tuples with flat tuples and lists in them; list.index; data in L. -/
namespace Xi
open PySem PySem.Spec PyProof.Rows L2
/-- a plain value, or a flat list or tuple that stands in L, with its data -/
inductive Fn (L : LL) : V → PyData → Prop where
  | fl {v : V} {d : PyData} (h : Fl v d) : Fn L v d
  | tup {p : Addr} {vs : List V} {ds : List PyData} (ia : At L p (.tup vs)) (f : Fls vs ds) (hn : Nat.ble ds.length 100 = true) : Fn L (.ref p) (.tuple ds)
  | lst {p : Addr} {vs : List V} {ds : List PyData} (ia : At L p (.lst vs)) (f : Fls vs ds) (hn : Nat.ble ds.length 100 = true) : Fn L (.ref p) (.list ds)
inductive Fns (L : LL) : List V → List PyData → Prop where
  | nil : Fns L [] []
  | cons {v : V} {d : PyData} {vs : List V} {ds : List PyData} (h : Fn L v d) (t : Fns L vs ds) : Fns L (v :: vs) (d :: ds)
section
variable {K : PySem.W.Frag} {H0 H : Hp} {M : Addr → Prop} {L : LL} {vs : List V} {ds : List PyData} {v : V} {d : PyData}
theorem Fn.dp (h : Fn L v d) (z : Hs H0 M L H) : Dp K H v d := by
  cases h with
  | fl h => exact h.dp
  | tup ia f hn => exact .tup (z.st ia) f.dp
  | lst ia f hn => exact .lst (z.sq ia) f.dp
theorem Fns.dp (h : Fns L vs ds) (z : Hs H0 M L H) : DpAll K H vs ds := by
  induction h with
  | nil => exact .nil
  | cons h _ ih => exact .cons (h.dp z) ih
theorem Fn.facts (h : Fn L v d) : d.showable = true ∧ d.hasDict = false ∧ d.depth ≤ 2 ∧ d.shown.length ≤ 192400 := by
  cases h with
  | fl h => obtain ⟨a, b, c, e⟩ := h.facts; exact ⟨a, b, by omega, by omega⟩
  | tup ia f hn => obtain ⟨a, b, c, e⟩ := f.facts; exact ⟨by simpa [PyData.showable] using a, by simpa [PyData.hasDict] using b, by simp only [PyData.depth]; omega, Nat.le_trans (tuple_le e (Nat.le_of_ble_eq_true hn)) (by decide)⟩
  | lst ia f hn => obtain ⟨a, b, c, e⟩ := f.facts; exact ⟨by simpa [PyData.showable] using a, by simpa [PyData.hasDict] using b, by simp only [PyData.depth]; omega, Nat.le_trans (list_le e (Nat.le_of_ble_eq_true hn)) (by decide)⟩
theorem Fns.facts (h : Fns L vs ds) : PyData.showableAll ds = true ∧ PyData.hasDictAll ds = false ∧ PyData.depthAll ds ≤ 2 ∧ ∀ d ∈ ds, d.shown.length ≤ 192400 := by
  induction h with
  | nil => exact ⟨by simp [PyData.showableAll], by simp [PyData.hasDictAll], by simp [PyData.depthAll], fun _ h => (nomatch h)⟩
  | cons h _ ih =>
    obtain ⟨a, b, c, e⟩ := h.facts
    obtain ⟨a2, b2, c2, e2⟩ := ih
    refine ⟨by simp [PyData.showableAll, a, a2], by simp [PyData.hasDictAll, b, b2], by simp only [PyData.depthAll]; omega, fun x hx => ?_⟩
    rcases List.mem_cons.mp hx with z | z
    · rw [z]; exact e
    · exact e2 x z
theorem Fn.lay (h : Fn L v d) : d.canLay0 = true := by
  cases h with
  | fl h => exact h.lay
  | tup ia f hn => have a := f.lay; simpa [PyData.canLay0] using a
  | lst ia f hn => have a := f.lay; simpa [PyData.canLay0] using a
theorem Fns.lay (h : Fns L vs ds) : PyData.canLayAll0 ds = true := by
  induction h with
  | nil => simp [PyData.canLayAll0]
  | cons h _ ih => simp [PyData.canLayAll0, h.lay, ih]
theorem Fns.shL (h : Fns L vs ds) : SeqAt.shaped (.list ds) = true := by
  have a := h.lay
  have b := h.facts.2.2.1
  exact Bool.and_eq_true_iff.mpr ⟨by simpa [PyData.canLay0] using a, decide_eq_true (by simp only [PyData.depth]; omega)⟩
theorem Fns.shT (h : Fns L vs ds) : SeqAt.shaped (.tuple ds) = true := by
  have a := h.lay
  have b := h.facts.2.2.1
  exact Bool.and_eq_true_iff.mpr ⟨by simpa [PyData.canLay0] using a, decide_eq_true (by simp only [PyData.depth]; omega)⟩
/-- the same data are equal -/
theorem eqvL_same {ds es : List PyData} (e : ds = es) (h : PyData.canLayAll0 ds = true) : PyData.eqv (.list ds) (.list es) = true := by
  subst e
  exact PySem.SeqAt.eqv_refl _ (by simpa [PyData.canLay0] using h)
theorem eqvT_same {ds es : List PyData} (e : ds = es) (h : PyData.canLayAll0 ds = true) : PyData.eqv (.tuple ds) (.tuple es) = true := by
  subst e
  exact PySem.SeqAt.eqv_refl _ (by simpa [PyData.canLay0] using h)
end
section
variable {X : Cx} {H0 : Hp} {M : Addr → Prop} {L : LL} {Q : V → LL → Prop} {k : Nat} {p q : Addr} {vs xs ys : List V} {ds es : List PyData}
theorem rc_reprNL (hr : Room k X.A) (gd : X.A.guards = some []) (ia : At L p (.lst vs)) (f : Fns L vs ds) (hn : Nat.ble ds.length 80 = true) (h : Q (.str (PyData.list ds).shown) L) : rc X H0 M (.builtin "repr") [.ref p] L Q := by
  obtain ⟨a, b, c, e⟩ := f.facts
  refine rc_repr hr gd (fun H z => .lst (z.sq ia) (f.dp z)) (by simpa [PyData.showable] using a) (by simpa [PyData.hasDict] using b) (by simp only [PyData.depth]; omega) ?_ h
  exact Nat.le_trans (list_le e (Nat.le_of_ble_eq_true hn)) (by decide)
theorem rc_reprNT (hr : Room k X.A) (gd : X.A.guards = some []) (ia : At L p (.tup vs)) (f : Fns L vs ds) (hn : Nat.ble ds.length 80 = true) (h : Q (.str (PyData.tuple ds).shown) L) : rc X H0 M (.builtin "repr") [.ref p] L Q := by
  obtain ⟨a, b, c, e⟩ := f.facts
  refine rc_repr hr gd (fun H z => .tup (z.st ia) (f.dp z)) (by simpa [PyData.showable] using a) (by simpa [PyData.hasDict] using b) (by simp only [PyData.depth]; omega) ?_ h
  exact Nat.le_trans (tuple_le e (Nat.le_of_ble_eq_true hn)) (by decide)
theorem ro_eqNL (hr : Room k X.A) (ia : At L p (.lst xs)) (ib : At L q (.lst ys)) (f : Fns L xs ds) (g : Fns L ys es) (h : Q (.bl (PyData.eqv (.list ds) (.list es))) L) : ro X H0 M (compareOp .Eq) (.ref p) (.ref q) L Q :=
  ro_of (op_eqD (by have := hr.un; omega)) fun H z => ⟨_, _, .lst (z.sq ia) (f.dp z), .lst (z.sq ib) (g.dp z), f.shL, g.shL, L, z, h⟩
theorem ro_neNL (hr : Room k X.A) (ia : At L p (.lst xs)) (ib : At L q (.lst ys)) (f : Fns L xs ds) (g : Fns L ys es) (h : Q (.bl (!PyData.eqv (.list ds) (.list es))) L) : ro X H0 M (compareOp .NotEq) (.ref p) (.ref q) L Q :=
  ro_of (op_neD (by have := hr.un; omega)) fun H z => ⟨_, _, .lst (z.sq ia) (f.dp z), .lst (z.sq ib) (g.dp z), f.shL, g.shL, L, z, h⟩
/-- .. that are seen to be the same -/
theorem ro_eqLs (hr : Room k X.A) (ia : At L p (.lst xs)) (ib : At L q (.lst ys)) (f : Fns L xs ds) (g : Fns L ys es) (e : ds = es) (h : Q (.bl true) L) : ro X H0 M (compareOp .Eq) (.ref p) (.ref q) L Q :=
  ro_eqNL hr ia ib f g (by rw [eqvL_same e f.lay]; exact h)
theorem ro_neLs (hr : Room k X.A) (ia : At L p (.lst xs)) (ib : At L q (.lst ys)) (f : Fns L xs ds) (g : Fns L ys es) (e : ds = es) (h : Q (.bl false) L) : ro X H0 M (compareOp .NotEq) (.ref p) (.ref q) L Q :=
  ro_neNL hr ia ib f g (by rw [eqvL_same e f.lay]; exact h)
theorem ro_eqTs (hr : Room k X.A) (ia : At L p (.tup xs)) (ib : At L q (.tup ys)) (f : Fls xs ds) (g : Fls ys es) (e : ds = es) (h : Q (.bl true) L) : ro X H0 M (compareOp .Eq) (.ref p) (.ref q) L Q :=
  ro_eqT hr ia ib f g (by rw [eqvT_same e f.lay]; exact h)
theorem ro_neTs (hr : Room k X.A) (ia : At L p (.tup xs)) (ib : At L q (.tup ys)) (f : Fls xs ds) (g : Fls ys es) (e : ds = es) (h : Q (.bl false) L) : ro X H0 M (compareOp .NotEq) (.ref p) (.ref q) L Q :=
  ro_neT hr ia ib f g (by rw [eqvT_same e f.lay]; exact h)
end
theorem pickB_str {x y : Str} {A B : Prop} (e : x = y) (h : A) : PickB (decide (x = y)) A B := pickB_dY e h
section
variable {X : Cx} {H0 : Hp} {M : Addr → Prop} {L : LL} {Q : V → LL → Prop} {o e : Expr} {σ : L2.St} {pos apos : Pos}
theorem flat_ints (is : List Int) : (is.map V.int).all flatV = true := by
  rw [List.all_eq_true]
  intro x hx
  obtain ⟨i, _, rfl⟩ := List.mem_map.mp hx
  rfl
/-- xs.index(m), numbers -/
theorem ke_idx (hbase : attributeBase o "index" X.env (eval o X.env) = eval o X.env) (hfew : ((backTo pos (starEach [e] X.env)).all (fun x => !x.1) && (backToKw pos (keywordEach [] X.env)).all (fun x => x.1.isSome)
      && decide (([e] : List Expr).length + ([] : List Keyword).length + (if ([] : List Keyword).isEmpty then 0 else 1) < 30)) = true) (hline : (apos.endLine == pos.line) = true) (hs : starEach [e] X.env = (false, eval e X.env) :: starEach [] X.env) (hpl : (backTo pos (starEach [] X.env)).any (·.1) = false)
    (h : ke X H0 M o σ L fun x L1 => ∃ (q : Addr) (is : List Int), x = .ref q ∧ At L1 q (.lst (is.map V.int)) ∧ ke X H0 M e σ L1 fun v L2 => ∃ (m : Int) (j : Nat), v = .int m ∧ At L2 q (.lst (is.map V.int)) ∧ is[j]? = some m ∧ (∀ i, i < j → is[i]? ≠ some m) ∧ Q (.int j) L2) :
    ke X H0 M (.Call (.Attribute o "index" apos) [e] [] pos) σ L Q := fun H z =>
  we_of (pe_bm PySem.F.plainAttrs_list PySem.F.slot_list_index PySem.F.type_list_index mt_index pe_we (pa_cons pe_we pa_nil hs) hbase hfew hline hs hpl)
    (we_mono (h H z) fun x H1 ⟨L1, z1, q, is, ex, ia, k⟩ => by
      subst ex
      refine ⟨.inl ⟨rfl, _, z1.sq ia⟩, we_mono (k H1 z1) fun v H2 ⟨L2, z2, m, j, ev, ib, hj, hno, r⟩ => ?_⟩
      subst ev
      refine ⟨q, is.map V.int, .int m, j, .int m, rfl, rfl, z2.sq ib, rfl, flat_ints is, by rw [List.getElem?_map, hj]; rfl, by simp [eqV], fun i z' hi hz => ?_, L2, z2, r⟩
      rw [List.getElem?_map] at hz
      obtain ⟨y, hy, rfl⟩ := Option.map_eq_some_iff.mp hz
      have ne : y ≠ m := fun e => hno i hi (by rw [hy, e])
      simpa [eqV] using ne)
end
/-! ### slices as the walker asks for them -/
section
variable {K : PySem.W.Frag} {H0 : Hp} {M : Addr → Prop} {L : LL} {Q : V → LL → Prop} {p : Addr} {xs : List V} {x : V} {l u : Option Int}
theorem sl_at (ia : At L p (.lst xs)) (k : New H0 (.lst (cutV xs l u)) L Q) : ∃ p' xs', V.ref p = .ref p' ∧ (At L p' (.lst xs') ∨ (SqL K H0 p' xs' ∧ ¬ M p')) ∧ New H0 (.lst (cutV xs' l u)) L Q := ⟨p, xs, rfl, .inl ia, k⟩
/-- xs[1:] -/
theorem sl_1 (ia : At L p (.lst (x :: xs))) (k : New H0 (.lst xs) L Q) : ∃ p' xs', V.ref p = .ref p' ∧ (At L p' (.lst xs') ∨ (SqL K H0 p' xs' ∧ ¬ M p')) ∧ New H0 (.lst (cutV xs' (some 1) none)) L Q := ⟨p, _, rfl, .inl ia, by rw [cut_tail]; exact k⟩
end
/-! ### == of tuples and lists, flat or one level deep; numbers of any size -/
inductive Gf : V → PyData → Prop where
  | int {i : Int} : Gf (.int i) (.int i)
  | str {x : Str} (h : PyData.strOk x = true) : Gf (.str x) (.str x)
  | non : Gf .non .none
  | bl {b : Bool} : Gf (.bl b) (.bool b)
inductive Gfs : List V → List PyData → Prop where
  | nil : Gfs [] []
  | cons {v : V} {d : PyData} {vs : List V} {ds : List PyData} (h : Gf v d) (t : Gfs vs ds) : Gfs (v :: vs) (d :: ds)
inductive Gn (L : LL) : V → PyData → Prop where
  | fl {v : V} {d : PyData} (h : Gf v d) : Gn L v d
  | tup {p : Addr} {vs : List V} {ds : List PyData} (ia : At L p (.tup vs)) (f : Gfs vs ds) : Gn L (.ref p) (.tuple ds)
  | lst {p : Addr} {vs : List V} {ds : List PyData} (ia : At L p (.lst vs)) (f : Gfs vs ds) : Gn L (.ref p) (.list ds)
inductive Gns (L : LL) : List V → List PyData → Prop where
  | nil : Gns L [] []
  | cons {v : V} {d : PyData} {vs : List V} {ds : List PyData} (h : Gn L v d) (t : Gns L vs ds) : Gns L (v :: vs) (d :: ds)
section
variable {K : PySem.W.Frag} {H0 H : Hp} {M : Addr → Prop} {L : LL} {vs : List V} {ds : List PyData} {v : V} {d : PyData}
theorem Gf.dp (h : Gf v d) : Dp K H v d := by
  cases h with
  | int => exact .int _
  | str h => exact .str _
  | non => exact .non
  | bl => exact .bl _
theorem Gfs.dp (h : Gfs vs ds) : DpAll K H vs ds := by
  induction h with
  | nil => exact .nil
  | cons h _ ih => exact .cons h.dp ih
theorem Gf.lay (h : Gf v d) : d.canLay0 = true ∧ d.depth ≤ 1 := by
  cases h with
  | int => exact ⟨by simp [PyData.canLay0], by simp [PyData.depth]⟩
  | str h => exact ⟨by simp [PyData.canLay0, h], by simp [PyData.depth]⟩
  | non => exact ⟨by simp [PyData.canLay0], by simp [PyData.depth]⟩
  | bl => exact ⟨by simp [PyData.canLay0], by simp [PyData.depth]⟩
theorem Gfs.lay (h : Gfs vs ds) : PyData.canLayAll0 ds = true ∧ PyData.depthAll ds ≤ 1 := by
  induction h with
  | nil => exact ⟨by simp [PyData.canLayAll0], by simp [PyData.depthAll]⟩
  | cons h _ ih => exact ⟨by simp [PyData.canLayAll0, h.lay.1, ih.1], by have := h.lay.2; have := ih.2; simp only [PyData.depthAll]; omega⟩
theorem Gn.dp (h : Gn L v d) (z : Hs H0 M L H) : Dp K H v d := by
  cases h with
  | fl h => exact h.dp
  | tup ia f => exact .tup (z.st ia) f.dp
  | lst ia f => exact .lst (z.sq ia) f.dp
theorem Gns.dp (h : Gns L vs ds) (z : Hs H0 M L H) : DpAll K H vs ds := by
  induction h with
  | nil => exact .nil
  | cons h _ ih => exact .cons (h.dp z) ih
theorem Gn.lay (h : Gn L v d) : d.canLay0 = true ∧ d.depth ≤ 2 := by
  cases h with
  | fl h => exact ⟨h.lay.1, by have := h.lay.2; omega⟩
  | tup ia f => exact ⟨by simpa [PyData.canLay0] using f.lay.1, by have := f.lay.2; simp only [PyData.depth]; omega⟩
  | lst ia f => exact ⟨by simpa [PyData.canLay0] using f.lay.1, by have := f.lay.2; simp only [PyData.depth]; omega⟩
theorem Gns.lay (h : Gns L vs ds) : PyData.canLayAll0 ds = true ∧ PyData.depthAll ds ≤ 2 := by
  induction h with
  | nil => exact ⟨by simp [PyData.canLayAll0], by simp [PyData.depthAll]⟩
  | cons h _ ih => exact ⟨by simp [PyData.canLayAll0, h.lay.1, ih.1], by have := h.lay.2; have := ih.2; simp only [PyData.depthAll]; omega⟩
theorem Gns.shL (h : Gns L vs ds) : SeqAt.shaped (.list ds) = true := Bool.and_eq_true_iff.mpr ⟨by simpa [PyData.canLay0] using h.lay.1, decide_eq_true (by have := h.lay.2; simp only [PyData.depth]; omega)⟩
theorem Gns.shT (h : Gns L vs ds) : SeqAt.shaped (.tuple ds) = true := Bool.and_eq_true_iff.mpr ⟨by simpa [PyData.canLay0] using h.lay.1, decide_eq_true (by have := h.lay.2; simp only [PyData.depth]; omega)⟩
end
section
variable {X : Cx} {H0 : Hp} {M : Addr → Prop} {L : LL} {Q : V → LL → Prop} {k : Nat} {p q : Addr} {vs xs ys : List V} {ds es : List PyData}
theorem go_eqL (hr : Room k X.A) (ia : At L p (.lst xs)) (ib : At L q (.lst ys)) (f : Gns L xs ds) (g : Gns L ys es) (h : Q (.bl (PyData.eqv (.list ds) (.list es))) L) : ro X H0 M (compareOp .Eq) (.ref p) (.ref q) L Q :=
  ro_of (op_eqD (by have := hr.un; omega)) fun H z => ⟨_, _, .lst (z.sq ia) (f.dp z), .lst (z.sq ib) (g.dp z), f.shL, g.shL, L, z, h⟩
theorem go_neL (hr : Room k X.A) (ia : At L p (.lst xs)) (ib : At L q (.lst ys)) (f : Gns L xs ds) (g : Gns L ys es) (h : Q (.bl (!PyData.eqv (.list ds) (.list es))) L) : ro X H0 M (compareOp .NotEq) (.ref p) (.ref q) L Q :=
  ro_of (op_neD (by have := hr.un; omega)) fun H z => ⟨_, _, .lst (z.sq ia) (f.dp z), .lst (z.sq ib) (g.dp z), f.shL, g.shL, L, z, h⟩
theorem go_eqT (hr : Room k X.A) (ia : At L p (.tup xs)) (ib : At L q (.tup ys)) (f : Gns L xs ds) (g : Gns L ys es) (h : Q (.bl (PyData.eqv (.tuple ds) (.tuple es))) L) : ro X H0 M (compareOp .Eq) (.ref p) (.ref q) L Q :=
  ro_of (op_eqD (by have := hr.un; omega)) fun H z => ⟨_, _, .tup (z.st ia) (f.dp z), .tup (z.st ib) (g.dp z), f.shT, g.shT, L, z, h⟩
theorem go_neT (hr : Room k X.A) (ia : At L p (.tup xs)) (ib : At L q (.tup ys)) (f : Gns L xs ds) (g : Gns L ys es) (h : Q (.bl (!PyData.eqv (.tuple ds) (.tuple es))) L) : ro X H0 M (compareOp .NotEq) (.ref p) (.ref q) L Q :=
  ro_of (op_neD (by have := hr.un; omega)) fun H z => ⟨_, _, .tup (z.st ia) (f.dp z), .tup (z.st ib) (g.dp z), f.shT, g.shT, L, z, h⟩
/-- .. that are seen to be the same -/
theorem gs_eqL (hr : Room k X.A) (ia : At L p (.lst xs)) (ib : At L q (.lst ys)) (f : Gns L xs ds) (g : Gns L ys es) (e : ds = es) (h : Q (.bl true) L) : ro X H0 M (compareOp .Eq) (.ref p) (.ref q) L Q :=
  go_eqL hr ia ib f g (by rw [eqvL_same e f.lay.1]; exact h)
theorem gs_neL (hr : Room k X.A) (ia : At L p (.lst xs)) (ib : At L q (.lst ys)) (f : Gns L xs ds) (g : Gns L ys es) (e : ds = es) (h : Q (.bl false) L) : ro X H0 M (compareOp .NotEq) (.ref p) (.ref q) L Q :=
  go_neL hr ia ib f g (by rw [eqvL_same e f.lay.1]; exact h)
theorem gs_eqT (hr : Room k X.A) (ia : At L p (.tup xs)) (ib : At L q (.tup ys)) (f : Gns L xs ds) (g : Gns L ys es) (e : ds = es) (h : Q (.bl true) L) : ro X H0 M (compareOp .Eq) (.ref p) (.ref q) L Q :=
  go_eqT hr ia ib f g (by rw [eqvT_same e f.lay.1]; exact h)
theorem gs_neT (hr : Room k X.A) (ia : At L p (.tup xs)) (ib : At L q (.tup ys)) (f : Gns L xs ds) (g : Gns L ys es) (e : ds = es) (h : Q (.bl false) L) : ro X H0 M (compareOp .NotEq) (.ref p) (.ref q) L Q :=
  go_neT hr ia ib f g (by rw [eqvT_same e f.lay.1]; exact h)
theorem At.sub {L L' : LL} {a : Addr} {o : HO} (s : Sub L' L) (h : At L' a o) : At L a o := .of_mem (s.subset h.mem)
end
section
variable {X : Cx} {H0 : Hp} {M : Addr → Prop} {L : LL} {Q : V → LL → Prop}
theorem ro_pow5 (h : Q (.int 100000) L) : ro X H0 M (binaryOp .Pow) (.int 10) (.int 5) L Q := ro_powV 100000 ⟨by decide, by decide, by decide⟩ (by decide +kernel) h
theorem ro_pow6 (h : Q (.int 1000000) L) : ro X H0 M (binaryOp .Pow) (.int 10) (.int 6) L Q := ro_powV 1000000 ⟨by decide, by decide, by decide⟩ (by decide +kernel) h
theorem ro_pow7 (h : Q (.int 10000000) L) : ro X H0 M (binaryOp .Pow) (.int 10) (.int 7) L Q := ro_powV 10000000 ⟨by decide, by decide, by decide⟩ (by decide +kernel) h
theorem ro_pow10 (h : Q (.int 10000000000) L) : ro X H0 M (binaryOp .Pow) (.int 10) (.int 10) L Q := ro_powV 10000000000 ⟨by decide, by decide, by decide⟩ (by decide +kernel) h
theorem ro_pow14 (h : Q (.int 100000000000000) L) : ro X H0 M (binaryOp .Pow) (.int 10) (.int 14) L Q := ro_powV 100000000000000 ⟨by decide, by decide, by decide⟩ (by decide +kernel) h
theorem ro_pow15 (h : Q (.int 1000000000000000) L) : ro X H0 M (binaryOp .Pow) (.int 10) (.int 15) L Q := ro_powV 1000000000000000 ⟨by decide, by decide, by decide⟩ (by decide +kernel) h
theorem ro_pow19 (h : Q (.int 10000000000000000000) L) : ro X H0 M (binaryOp .Pow) (.int 10) (.int 19) L Q := ro_powV 10000000000000000000 ⟨by decide, by decide, by decide⟩ (by decide +kernel) h
theorem ro_pow28 (h : Q (.int 10000000000000000000000000000) L) : ro X H0 M (binaryOp .Pow) (.int 10) (.int 28) L Q := ro_powV 10000000000000000000000000000 ⟨by decide, by decide, by decide⟩ (by decide +kernel) h
theorem ro_pow29 (h : Q (.int 100000000000000000000000000000) L) : ro X H0 M (binaryOp .Pow) (.int 10) (.int 29) L Q := ro_powV 100000000000000000000000000000 ⟨by decide, by decide, by decide⟩ (by decide +kernel) h
theorem ro_pow31 (h : Q (.int 10000000000000000000000000000000) L) : ro X H0 M (binaryOp .Pow) (.int 10) (.int 31) L Q := ro_powV 10000000000000000000000000000000 ⟨by decide, by decide, by decide⟩ (by decide +kernel) h
theorem ro_pow38 (h : Q (.int 100000000000000000000000000000000000000) L) : ro X H0 M (binaryOp .Pow) (.int 10) (.int 38) L Q := ro_powV 100000000000000000000000000000000000000 ⟨by decide, by decide, by decide⟩ (by decide +kernel) h
theorem ro_pow39 (h : Q (.int 1000000000000000000000000000000000000000) L) : ro X H0 M (binaryOp .Pow) (.int 10) (.int 39) L Q := ro_powV 1000000000000000000000000000000000000000 ⟨by decide, by decide, by decide⟩ (by decide +kernel) h
theorem ro_pow50 (h : Q (.int 100000000000000000000000000000000000000000000000000) L) : ro X H0 M (binaryOp .Pow) (.int 10) (.int 50) L Q := ro_powV 100000000000000000000000000000000000000000000000000 ⟨by decide, by decide, by decide⟩ (by decide +kernel) h
theorem ro_pow56 (h : Q (.int 100000000000000000000000000000000000000000000000000000000) L) : ro X H0 M (binaryOp .Pow) (.int 10) (.int 56) L Q := ro_powV 100000000000000000000000000000000000000000000000000000000 ⟨by decide, by decide, by decide⟩ (by decide +kernel) h
theorem ro_pow57 (h : Q (.int 1000000000000000000000000000000000000000000000000000000000) L) : ro X H0 M (binaryOp .Pow) (.int 10) (.int 57) L Q := ro_powV 1000000000000000000000000000000000000000000000000000000000 ⟨by decide, by decide, by decide⟩ (by decide +kernel) h
theorem ro_pow61 (h : Q (.int 10000000000000000000000000000000000000000000000000000000000000) L) : ro X H0 M (binaryOp .Pow) (.int 10) (.int 61) L Q := ro_powV 10000000000000000000000000000000000000000000000000000000000000 ⟨by decide, by decide, by decide⟩ (by decide +kernel) h
theorem ro_pow63 (h : Q (.int 1000000000000000000000000000000000000000000000000000000000000000) L) : ro X H0 M (binaryOp .Pow) (.int 10) (.int 63) L Q := ro_powV 1000000000000000000000000000000000000000000000000000000000000000 ⟨by decide, by decide, by decide⟩ (by decide +kernel) h
theorem ro_pow64 (h : Q (.int 10000000000000000000000000000000000000000000000000000000000000000) L) : ro X H0 M (binaryOp .Pow) (.int 10) (.int 64) L Q := ro_powV 10000000000000000000000000000000000000000000000000000000000000000 ⟨by decide, by decide, by decide⟩ (by decide +kernel) h
end
theorem pickB_neT {ds es : List PyData} {A B : Prop} (e : ds = es) (l : PyData.canLayAll0 ds = true) (h : B) : PickB (!PyData.eqv (.tuple ds) (.tuple es)) A B := pickB_N (by rw [eqvT_same e l]; rfl) h
theorem pickB_neL {ds es : List PyData} {A B : Prop} (e : ds = es) (l : PyData.canLayAll0 ds = true) (h : B) : PickB (!PyData.eqv (.list ds) (.list es)) A B := pickB_N (by rw [eqvL_same e l]; rfl) h
theorem pickB_eqT {ds es : List PyData} {A B : Prop} (e : ds = es) (l : PyData.canLayAll0 ds = true) (h : A) : PickB (PyData.eqv (.tuple ds) (.tuple es)) A B := pickB_Y (eqvT_same e l) h
theorem pickB_eqL {ds es : List PyData} {A B : Prop} (e : ds = es) (l : PyData.canLayAll0 ds = true) (h : A) : PickB (PyData.eqv (.list ds) (.list es)) A B := pickB_Y (eqvL_same e l) h
/-- the body begins; the names as they stand -/
theorem wb_go {X : Cx} {M : Addr → Prop} {L : LL} {H : Hp} {σ σ0 : L2.St} {Q : VK} {ss : List Stmt} (e : σ0 = σ) (hs : Hs H M L H) (h : kb X H M ss (fun _ L' => ∀ H', Hs H M L' H' → Q .non H') (fun v L' => ∀ H', Hs H M L' H' → Q v H') (fun _ _ => False) (fun _ _ => False) σ L) :
    wb X ss { nx := fun _ H' => Q .non H', rt := Q } σ0 H := by
  subst e
  exact wb_kb hs h
end Xi

/-! ## Eq -/
/-! == and != between instances of a family of classes with one __eq__ of their own. -/
namespace Xi
open PySem PySem.Spec PyProof.Rows L2 PySem.W
/-- what a class says of == -/
structure EqF (K : PySem.W.Frag) (C f : Addr) : Prop where
  eq : findIn K (.ref C) "__eq__" = some (some (.ref f))
  fn : isFn K (.ref f) = true
  ne : findIn K (.ref C) "__ne__" = some (some (.builtin "object.__ne__"))
  ob : mroIn K C (.type "object") = some true
section
variable {prog : Program} {w : World} {A : Around} {E : Value → Shared → Prop} {s : Shared} {K : PySem.W.Frag} {C D f x y : Addr} {ox oy : Obj} {od oe : Option Obj}
theorem tc_eq {b : Value} {Q : Value → Shared → Prop} (X : K.In s.heap) (I : InstAt s.heap x ox C od) (FC : EqF K C f) (h : wpAny (model prog w) A (call (.ref f) [.ref x, b]) (PySem.W.CmpBack Q) E s) :
    wpAny (model prog w) A (tryCompare (.ref x) "__eq__" b) (fun r s' => ∃ v, r = some v ∧ Q v s') E s := by
  unfold tryCompare
  refine wpAny_bind (ifBound_K X I FC.eq FC.fn (wpAny_mono h (fun v s' hv => ?_) fun _ _ e => e))
  cases v <;> first | exact hv.elim | exact wpAny_pure ⟨_, rfl, hv⟩
theorem ifBound_objNe {args : List Value} {Q : Option Value → Shared → Prop} (X : K.In s.heap) (I : InstAt s.heap x ox C od) (hs : findIn K (.ref C) "__ne__" = some (some (.builtin "object.__ne__")))
    (h : wpAny (model prog w) A (call (.builtin "object.__ne__") (.ref x :: args)) (fun v => Q (some v)) E s) : wpAny (model prog w) A (callSpecialIfBound? (.ref x) "__ne__" args) Q E s := by
  simp only [callSpecialIfBound?, bindSpecialIfBound?]
  refine wpAny_holding (wpAny_bind (wpAny_bind (wpAny_bind (I.type.here ((looks_findIn X hs).here ?_)))))
  refine wpAny_bind (wpAny_askSetting (wpAny_ite ?_))
  have fin : wpAny (model prog w) A (call (.builtin "object.__ne__") ([.ref x] ++ args) >>= fun v => pure (some v)) Q E s := wpAny_bind (wpAny_mono h (fun v s' h' => wpAny_pure h') fun _ _ h' => h')
  split
  · exact wpAny_bind (wpAny_of_eq (F.cmp_object.ne.bind _) (wpAny_pure (by exact fin)))
  · exact wpAny_tryCatch (wpAny_bind (wpAny_of_eq (F.cmp_object.ne.bind _) (wpAny_pure (by exact fin))))
theorem tc_ne {b : Value} {Q : Value → Shared → Prop} (hu : A.units + 1 < cLine) (X : K.In s.heap) (I : InstAt s.heap x ox C od) (FC : EqF K C f)
    (h : wpAny (model prog w) A.in1 (call (.ref f) [.ref x, b]) (fun v s' => ∃ k, v = .bool k ∧ Q (.bool (!k)) s') E s) :
    wpAny (model prog w) A (tryCompare (.ref x) "__ne__" b) (fun r s' => ∃ v, r = some v ∧ Q v s') E s := by
  unfold tryCompare
  refine wpAny_bind (ifBound_objNe X I FC.ne (wpAny_call (codeAny_call_builtin F.cmp_object.ne.plain F.cmpEntry_ne (check_slot F.cmpKind_ne F.cmpSplit_ne (I.type.andThen (looks_mroIn X FC.ob)) (F.cmpArgs_ne _ _) ?_))))
  show wpAny (model prog w) A.in1 (Builtin.«object.__ne__» ⟨[.ref x, b], []⟩) _ _ s
  unfold Builtin.«object.__ne__»
  repeat (first
    | with_reducible refine wpAny_cRoomFor hu ?_
    | (refine wpAny_bind (m := callSpecialIfBound? (.ref x) (Str.ofString "__eq__") [b])
        (ifBound_K X I FC.eq FC.fn (wpAny_mono h (fun r s' hr => by
          obtain ⟨b, rfl, hq⟩ := hr
          repeat (first | exact wpAny_pure ⟨_, rfl, hq⟩ | exact wpAny_truthy_bool hq | (refine wpAny_bind (m := truthy (.bool _)) (wpAny_truthy_bool ?_)) | wp_step)) fun _ _ e => e)))
    | wp_step)
theorem cmp_fam {op : CmpOp} {Q : Value → Shared → Prop} (ho : op = .Eq ∨ op = .NotEq) (hu : A.units < cLine) (X : K.In s.heap) (I : InstAt s.heap x ox C od) (J : InstAt s.heap y oy D oe) (hs : ∃ b, subIn K (.ref D) (.ref C) = some b)
    (h1 : wpAny (model prog w) A (tryCompare (.ref x) (cmpInfo op).2.1 (.ref y)) (fun r s' => ∃ v, r = some v ∧ Q v s') E s)
    (h2 : wpAny (model prog w) A (tryCompare (.ref y) (cmpInfo op).2.2 (.ref x)) (fun r s' => ∃ v, r = some v ∧ Q v s') E s) : wpAny (model prog w) A (richCompare op (.ref x) (.ref y)) Q E s := by
  obtain ⟨b, hb⟩ := hs
  unfold richCompare
  simp only [oneThing_ref]
  refine wpAny_holding (wpAny_bind (wpAny_cRoomFor hu ?_))
  refine wpAny_bind (I.type.here (wpAny_bind (J.type.here ?_)))
  split
  · refine wpAny_bind ((looks_subIn X hb).here ?_)
    cases b with
    | true =>
      rw [if_pos rfl]
      refine wpAny_bind (wpAny_mono h2 (fun r s' z => ?_) fun _ _ e => e)
      obtain ⟨v, rfl, hq⟩ := z
      first | exact wpAny_pure hq | exact wpAny_bind (wpAny_rule (wpAny_pure hq)) | exact wpAny_bind (wpAny_rule hq)
    | false =>
      simp only [Bool.false_eq_true, if_false]
      refine wpAny_bind (wpAny_mono h1 (fun r s' z => ?_) fun _ _ e => e)
      obtain ⟨v, rfl, hq⟩ := z
      exact wpAny_pure hq
  · refine wpAny_bind (wpAny_pure ?_)
    simp only [Bool.false_eq_true, if_false]
    refine wpAny_bind (wpAny_mono h1 (fun r s' z => ?_) fun _ _ e => e)
    obtain ⟨v, rfl, hq⟩ := z
    exact wpAny_pure hq
end
structure EqT (P : Program) (w : World) (K : PySem.W.Frag) (mg : Str → Option Value) (base : Heap) (CX : CXT) (k : Nat) (Cs : Addr → Prop) (sp : Sp) : Prop where
  ex : ∃ f fd ps, Fk P w K mg base CX k f fd ps sp ∧ (∀ C, Cs C → EqF K C f) ∧ (∀ C D, Cs C → Cs D → ∃ b, subIn K (.ref D) (.ref C) = some b) ∧ Binds K fd ps []
structure FunE (K : PySem.W.Frag) (Cs : Addr → Prop) (m qual : Str) (st : Stmt) : Prop where
  ex : ∃ f fd, Fun K m qual st f fd ∧ (∀ C, Cs C → EqF K C f) ∧ (∀ C D, Cs C → Cs D → ∃ b, subIn K (.ref D) (.ref C) = some b)
theorem FunE.ok {P : Program} {w : World} {K : PySem.W.Frag} {mg : Str → Option Value} {base : Heap} {k : Nat} {m qual : Str} {st : Stmt} {sp : Sp} {ps : List Str} {Cs : Addr → Prop} (F : FunE K Cs m qual st) (b : ∀ f fd, Fun K m qual st f fd → Binds K fd ps [])
    (h : ∀ f fd, Fun K m qual st f fd → Fk P w K mg base CX0 k f fd ps sp) : EqT P w K mg base CX0 k Cs sp := by
  obtain ⟨f, fd, F, fam, sub⟩ := F.ex
  exact ⟨f, fd, ps, h f fd F, fam, sub, b f fd F⟩
section
variable {X : Cx} {P : Program} {w : World} {K : PySem.W.Frag} {mg : Str → Option Value} {base : Heap} {k j : Nat} {N Nv : List Str} {sc : Scope} {sp : Sp} {a b C D dx dy : Addr} {fs gs : List (Str × V)} {Cs : Addr → Prop}
variable {H0 : Hp} {M : Addr → Prop} {L : LL} {Q : V → LL → Prop}
theorem Body.eqI (bd : Body X P w K mg base k N Nv sc) (O : EqT P w K mg base CX0 j Cs sp) (hj : Nat.ble j k = true) (ix : At L a (.ins C dx fs)) (cC : Cs C) (iy : At L b (.ins D dy gs)) (cD : Cs D)
    (h1 : rs H0 M sp EE [.ref a, .ref b] L Q) (h2 : rs H0 M sp EE [.ref b, .ref a] L Q) : ro X H0 M (compareOp .Eq) (.ref a) (.ref b) L Q := fun H z pins s σ v u I rx ry => by
  obtain ⟨f, fd, ps, F, fam, sub, hb⟩ := O.ex
  rw [← bd.prog, ← bd.w, ← bd.K, ← bd.mg, ← bd.base] at F
  rw [← bd.K] at fam sub hb
  obtain rfl : v = Value.ref a := rx
  obtain rfl : u = Value.ref b := ry
  obtain ⟨ox, od, J, _⟩ := StX.insC_at I (.inr ⟨dx, fs, z.get ix⟩)
  obtain ⟨oy, oe, J2, _⟩ := StX.insC_at I (.inr ⟨dy, gs, z.get iy⟩)
  have hr := bd.rm (Nat.le_of_ble_eq_true hj)
  show wpAny (model X.prog X.w) X.A (richCompare .Eq (.ref a) (.ref b)) _ _ _
  refine cmp_fam (.inl rfl) (by have := hr.un; omega) I.kIn J J2 (sub C D cC cD) (tc_eq I.kIn J (fam C cC) ?_) (tc_eq I.kIn J2 (fam D cD) ?_)
  · refine wpAny_mono (fk_run (us := [.ref a, .ref b]) (vs := [.ref a, .ref b]) F hr bd.gd hb .nil px0 I (.cons rfl (.cons rfl .nil)) (h1 H z)) (fun r s2 ⟨v, H2, I3, rv, q⟩ => ?_) fun _ _ e => e
    exact cmp_back (Q := fun _ _ => True) rv ⟨v, H2, I3, rv, q⟩
  · refine wpAny_mono (fk_run (us := [.ref b, .ref a]) (vs := [.ref b, .ref a]) F hr bd.gd hb .nil px0 I (.cons rfl (.cons rfl .nil)) (h2 H z)) (fun r s2 ⟨v, H2, I3, rv, q⟩ => ?_) fun _ _ e => e
    exact cmp_back (Q := fun _ _ => True) rv ⟨v, H2, I3, rv, q⟩
theorem Body.neI (bd : Body X P w K mg base k N Nv sc) (O : EqT P w K mg base CX0 j Cs sp) (hj : Nat.ble (j + 1) k = true) (ix : At L a (.ins C dx fs)) (cC : Cs C) (iy : At L b (.ins D dy gs)) (cD : Cs D)
    (h1 : rs H0 M sp EE [.ref a, .ref b] L fun v L1 => ∃ k, v = .bl k ∧ Q (.bl (!k)) L1) (h2 : rs H0 M sp EE [.ref b, .ref a] L fun v L1 => ∃ k, v = .bl k ∧ Q (.bl (!k)) L1) : ro X H0 M (compareOp .NotEq) (.ref a) (.ref b) L Q := fun H z pins s σ v u I rx ry => by
  obtain ⟨f, fd, ps, F, fam, sub, hb⟩ := O.ex
  rw [← bd.prog, ← bd.w, ← bd.K, ← bd.mg, ← bd.base] at F
  rw [← bd.K] at fam sub hb
  obtain rfl : v = Value.ref a := rx
  obtain rfl : u = Value.ref b := ry
  obtain ⟨ox, od, J, _⟩ := StX.insC_at I (.inr ⟨dx, fs, z.get ix⟩)
  obtain ⟨oy, oe, J2, _⟩ := StX.insC_at I (.inr ⟨dy, gs, z.get iy⟩)
  have hr : Room (j + 1) X.A := bd.rm (Nat.le_of_ble_eq_true hj)
  have one : ∀ x y : Addr, rs H0 M sp EE [.ref x, .ref y] L (fun v L1 => ∃ k, v = .bl k ∧ Q (.bl (!k)) L1) → wpAny (model X.prog X.w) X.A.in1 (PySem.call (.ref f) [.ref x, .ref y]) (fun v s' => ∃ k, v = .bool k ∧ EP X pins σ (up H0 M Q) (.bool (!k)) s') X.xe s := fun x y h => by
    have q2 := h H z
    have ll : ([Value.ref x, Value.ref y] ++ []).length = ps.length := F.len _ _ _ _ q2
    have bb := hb s [.ref x, .ref y] I.kIn ll
    rw [List.append_nil] at bb
    refine wpAny_call (codeAny_mono (F.go X.A.in1 X.stack s H ⟨[.ref x, .ref y], []⟩ [.ref x, .ref y] [.ref x, .ref y] _ EE hr.in1 bd.gd I.env0.in1 bb (.cons rfl (.cons rfl .nil)) q2) fun res s2 hq => ?_)
    rcases res with er | fl
    · exact (px0 (E := EE) pins σ H s er s2 I hq)
    · cases fl with
      | ret u =>
        obtain ⟨v, H', I3, rv, L3, z3, kk, ev, q3⟩ := I.after hq
        subst ev
        cases rv
        exact ⟨kk, rfl, .bl (!kk), H', I3, rfl, L3, z3, q3⟩
      | next => exact hq.elim
      | brk => exact hq.elim
      | cont => exact hq.elim
  show wpAny (model X.prog X.w) X.A (richCompare .NotEq (.ref a) (.ref b)) _ _ _
  have hu : X.A.units + 1 < cLine := by have := hr.un; omega
  exact cmp_fam (.inr rfl) (by omega) I.kIn J J2 (sub C D cC cD) (tc_ne hu I.kIn J (fam C cC) (one a b h1)) (tc_ne hu I.kIn J2 (fam D cD) (one b a h2))
end
end Xi

/-! ## Slc -/
/-! Slices of tuples with a step. -/
namespace Xi
open PySem PySem.Spec PyProof.Rows L2 PySem.SeqAt HT
section
variable {prog : Program} {w : World} {A : Around} {E : Value → Shared → Prop} {s : Shared}
theorem applied_st {sl : Addr} {vl vu vs : Value} {lo hi st : Option Int} {n : Int} {Q : Int × Int × Nat → Shared → Prop} (hs : s.heap.IsSliceOf sl vl vu vs) (pl : IsPart vl lo) (pu : IsPart vu hi) (ps : IsPart vs st) (h0 : (st.getD 1 == 0) = false)
    (h : Q ((Builtin.Slice.sliceAdjust lo hi (st.getD 1) n).1, st.getD 1, Builtin.Slice.slicePlaces (Builtin.Slice.sliceAdjust lo hi (st.getD 1) n).1 (Builtin.Slice.sliceAdjust lo hi (st.getD 1) n).2 (st.getD 1)) s) :
    wpAny (model prog w) A (Builtin.Slice.sliceApplied (.ref sl) (pure n)) Q E s := by
  obtain ⟨os, hos, hcs, hds⟩ := id hs
  unfold Builtin.Slice.sliceApplied Builtin.Slice.sliceFields
  refine wpAny_bind (wpAny_bind (wpAny_field hos hds (x := vl) rfl (wpAny_bind (wpAny_field hos hds (x := vu) rfl (wpAny_bind (wpAny_field hos hds (x := vs) rfl (wpAny_pure ?_)))))))
  refine wpAny_bind (slicePart_ ps ?_)
  show wpAny _ _ (if (st.getD 1 == 0) = true then _ else _) _ _ s
  rw [if_neg (by rw [h0]; decide)]
  refine wpAny_bind (slicePart_ pl (wpAny_bind (slicePart_ pu (wpAny_bind (wpAny_pure ?_)))))
  exact wpAny_pure h
/-- the items of a slice with a step -/
abbrev pickSt {α : Type} (xs : List α) (lo step : Int) (k : Nat) : List α := (List.range k).filterMap fun (m : Nat) => xs[(lo + (m : Int) * step).toNat]?
theorem getItem_tuple_st {t sl : Addr} {items : Array Value} {vl vu vs : Value} {lo hi st : Option Int} {a b : Int} {c : Int} {k : Nat} {Q : Value → Shared → Prop} (ht : IsTup s.heap t items) (hs : s.heap.IsSliceOf sl vl vu vs) (pl : IsPart vl lo) (pu : IsPart vu hi) (ps : IsPart vs st)
    (ec : st.getD 1 = c) (h0 : (c == 0) = false) (h1 : (c == 1) = false) (ea : Builtin.Slice.sliceAdjust lo hi c (items.size : Int) = (a, b)) (ek : Builtin.Slice.slicePlaces a b c = k)
    (hz : (pickSt items.toList a c k).length ≤ sizeLine) (h : Q (.ref s.heap.objs.size) { s with heap := s.heap.push { cls := .type "tuple", data := .seq (pickSt items.toList a c k).toArray } }) :
    wpAny (model prog w) A (getItem (.ref t) (.ref sl)) Q E s := by
  have htake : sizeOk (.seq (pickSt items.toList a c k).toArray) := by
    show (pickSt items.toList a c k).toArray.size ≤ sizeLine
    rw [List.size_toArray]; exact hz
  obtain ⟨os, hos, hcs, hds⟩ := id hs
  have hTs : s.TypeIs (.ref sl) "slice" := ⟨os, hos, hcs⟩
  unfold getItem
  try with_reducible refine wpAny_holding ?_
  first | refine wpAny_bind (wpAny_pure ?_) | skip
  refine wpAny_bind (wpAny_sequenceKey ht.typeIs (by decide) ?_)
  refine wpAny_bind (wpAny_callSpecial?_slot (name := Str.ofString "__getitem__") ht.typeIs PyProof.Rows.slot_tuple_getitem
    (wpAny_call_entry PyProof.Rows.slot_tuple_getitem ht.typeIs entry_tuple_getitem ?_ (args_tuple_getitem _ _)))
  show wpAny _ _ (Builtin.Tuple.tupleItemsOf (.ref t) >>= _) _ _ s
  refine wpAny_bind (tupleItemsOf_ ht ?_)
  refine wpAny_bind (wpAny_typeOf hTs ?_)
  rw [if_pos (by decide)]
  refine wpAny_bind (applied_st hs pl pu ps (by rw [ec]; exact h0) ?_)
  rw [ec, ea, ek]
  have hno : ¬ ((a == 0 && c == 1 && k == items.size) = true) := by rw [h1, Bool.and_false, Bool.false_and]; decide
  show wpAny _ _ (if (a == 0 && c == 1 && k == items.size) = true then _ else _) _ _ s
  rw [if_neg hno]
  have e : (fun (m : Nat) => items[(a + (m : Int) * c).toNat]?) = fun (m : Nat) => items.toList[(a + (m : Int) * c).toNat]? := by
    funext m
    rw [Array.getElem?_toList]
  rw [e]
  first
    | exact wpAny_bind (m := Builtin.Tuple.tupleExact _) (wpAny_newObj_type (wpAny_pure ⟨_, rfl, wpAny_pure h⟩) htake)
    | exact wpAny_bind (m := Builtin.Tuple.tupleExact _) (wpAny_newObj_type (wpAny_bind (wpAny_pure (wpAny_pure ⟨_, rfl, wpAny_pure h⟩))) htake)
    | exact wpAny_bind (wpAny_bind (m := Builtin.Tuple.tupleExact _) (wpAny_newObj_type (wpAny_pure (wpAny_pure ⟨_, rfl, wpAny_pure h⟩)) htake))
    | exact wpAny_bind (wpAny_bind (m := Builtin.Tuple.tupleExact _) (wpAny_newObj_type (wpAny_pure ⟨_, rfl, wpAny_pure h⟩) htake))
end
theorem vals_filterMap {α : Type} {xs : List V} {us : List Value} (r : Vals xs us) (g : α → Nat) : ∀ l : List α, Vals (l.filterMap fun m => xs[g m]?) (l.filterMap fun m => us[g m]?)
  | [] => .nil
  | m :: l => by
    rw [List.filterMap_cons, List.filterMap_cons]
    have ih := vals_filterMap r g l
    cases h : xs[g m]? with
    | none =>
      have : us[g m]? = none := by
        rw [List.getElem?_eq_none_iff] at h ⊢
        rw [← r.length]; exact h
      rw [this]
      exact ih
    | some v =>
      obtain ⟨u, hu, ru⟩ := r.get h
      rw [hu]
      exact .cons ru ih
section
variable {X : Cx} {H0 : Hp} {M : Addr → Prop} {L : LL} {Q : V → LL → Prop} {e : Expr} {σ : L2.St} {pos p1 p2 p3 : Pos} {k : Nat}
/-- t[::2], a tuple -/
theorem ke_sl2 (h : ke X H0 M e σ L fun x L1 => ∃ p xs, x = .ref p ∧ At L1 p (.tup xs) ∧ ∃ b j, Builtin.Slice.sliceAdjust none none 2 (xs.length : Int) = (0, b) ∧ Builtin.Slice.slicePlaces 0 b 2 = j ∧ (pickSt xs 0 2 j).length ≤ sizeLine ∧ New H0 (.tup (pickSt xs 0 2 j)) L1 Q) :
    ke X H0 M (.Subscript e (.Slice none none (some (.Constant (.int 2) k p1)) p3) pos) σ L Q := fun H z pins s I => by
  refine Subscript_ (thn (h H z pins s I) fun v s1 ⟨x, H1, I1, r1, L1, z1, p, xs, ex, ia, b, j, ea, ek, hz, q⟩ => ?_)
  subst ex
  cases r1
  have hst : PO X (some (.Constant (.int 2) k p1)) (tPart (tC (.int 2))) := po_some pe_int
  refine wpAny_Slice (thn (po_none.run pins s1 σ H1 (fun o H2 => o = none ∧ H2 = H1) I1 ⟨rfl, rfl⟩) fun vl s2 ⟨l, H2, I2, pl, el, e2⟩ => ?_)
  subst el e2
  refine thn (po_none.run pins s2 σ H2 (fun o H3 => o = none ∧ H3 = H2) I2 ⟨rfl, rfl⟩) fun vu s3 ⟨u, H3, I3, pu, eu, e3⟩ => ?_
  subst eu e3
  refine thn (hst.run pins s3 σ H3 (fun o H4 => o = some 2 ∧ H4 = H3) I3 ⟨2, rfl, rfl, rfl⟩) fun vs s4 ⟨o, H4, I4, ps, eo, e4⟩ => ?_
  subst eo e4
  have I5 : Inv X pins σ H4 { s4 with heap := s4.heap.push { cls := .type "slice", data := .fields #[vl, vu, vs] } } := I4.kept (t' := s4.toks) fun b ob q => Heap.get?_push_of_some _ q
  obtain ⟨its, r, ht, hz2⟩ := I5.tuple (z1.st ia)
  have hlen : its.toArray.size = xs.length := by rw [List.size_toArray]; exact r.length.symm
  have rp : Vals (pickSt xs 0 2 j) (pickSt its 0 2 j) := vals_filterMap r (fun m : Nat => (0 + (m : Int) * 2).toNat) _
  show wpAny (model X.prog X.w) X.A (subscriptTail e (.Slice none none (some (.Constant (.int 2) k p1)) p3) (.ref p) (.ref s4.heap.objs.size)) _ X.xe { s4 with heap := s4.heap.push { cls := .type "slice", data := .fields #[vl, vu, vs] } }
  refine tail_any (ops := [.ref p, .ref s4.heap.objs.size]) ht.typeIs (PyProof.Rows.slot_tuple_getitem.lookup) ?_ (by with_unfolding_all rfl)
  refine getItem_tuple_st ht (Heap.IsSliceOf.new _ vl vu vs) pl pu ps (c := 2) rfl (by decide) (by decide) (by rw [hlen]; exact ea) ek (by show (pickSt its 0 2 j).length ≤ _; rw [← rp.length]; exact hz) ?_
  have n5 := I5.hok.fresh (Nat.le_refl _)
  refine ⟨.ref _, _, I5.laid (t' := s4.toks) (o := .tup (pickSt xs 0 2 j)) (fun b ob q => Heap.get?_push_of_some _ q) (Nat.le_refl _) ?_, rfl, new_up z1 q _ n5⟩
  exact ⟨hz, _, rp, IsTup.new _ _⟩
/-- .. of three items -/
theorem sl2_3 {x y z : V} {p : Addr} (ia : At L p (.tup [x, y, z])) (q : New H0 (.tup [x, z]) L Q) : ∃ p' xs, V.ref p = .ref p' ∧ At L p' (.tup xs) ∧ ∃ b j, Builtin.Slice.sliceAdjust none none 2 (xs.length : Int) = (0, b) ∧ Builtin.Slice.slicePlaces 0 b 2 = j ∧ (pickSt xs 0 2 j).length ≤ sizeLine ∧ New H0 (.tup (pickSt xs 0 2 j)) L Q :=
  ⟨p, _, rfl, ia, 3, 2, by show Builtin.Slice.sliceAdjust none none 2 3 = (0, 3); decide +kernel, by decide +kernel, by show 2 ≤ sizeLine; decide, q⟩
end
section
variable {X : Cx} {H0 : Hp} {M : Addr → Prop} {L : LL} {Q : V → LL → Prop} {a b : Bool}
theorem dec_bl : decide (V.bl a = V.bl b) = decide (a = b) := by
  by_cases e : a = b
  · subst e; simp
  · rw [decide_eq_false e, decide_eq_false fun q => e (V.bl.inj q)]
theorem ro_eqBl (h : Q (.bl (decide (a = b))) L) : ro X H0 M (compareOp .Eq) (.bl a) (.bl b) L Q := ro_of op_eq fun _ z => ⟨rfl, L, z, by rw [dec_bl]; exact h⟩
theorem ro_neBl (h : Q (.bl (!decide (a = b))) L) : ro X H0 M (compareOp .NotEq) (.bl a) (.bl b) L Q := ro_of op_ne fun _ z => ⟨rfl, L, z, by rw [dec_bl]; exact h⟩
end
/-- what is known gets a name -/
theorem ke_name {X : Cx} {H0 : Hp} {M : Addr → Prop} {e : Expr} {σ : L2.St} {L : LL} {Q : V → LL → Prop} (k : ∀ L0, L = L0 → ke X H0 M e σ L0 Q) : ke X H0 M e σ L Q := k L rfl
theorem spot_app {a : Addr} {o : HO} {L : LL} : ∀ Ts : LL, Spot (Ts ++ (a, o) :: L) a o (fun o' => Ts ++ (a, o') :: L)
  | [] => .here
  | _ :: Ts => .there (spot_app Ts)
theorem at_app {a : Addr} {o : HO} {L : LL} (h : At L a o) : ∀ Ts : LL, At (Ts ++ L) a o
  | [] => h
  | _ :: Ts => .there (at_app h Ts)
end Xi

/-! ## Num2 -/
namespace Xi
/-- arrivals come again -/
theorem arr_period {e t r p d : Int} (hd : e ∣ d) : arr e t r (p + d) = arr e t r p + d := by
  show p + d + (t - (p + d)) % e + r = p + (t - p) % e + r + d
  have : (t - (p + d)) % e = (t - p) % e := Int.emod_eq_emod_iff_emod_sub_eq_zero.mpr (Int.emod_eq_zero_of_dvd (by
    rw [show t - (p + d) - (t - p) = -d by omega]; exact Int.dvd_neg.mpr hd))
  rw [this]; omega
theorem later_range {e t r f u s : Int} (he : 0 < e) (hf : 0 < f) (fit : e ∣ f ∨ f ∣ e) : laterB e t r f u s = true ↔ ∀ p, 0 ≤ p → p < addE e f → arr e t r p ≤ arr f u s p := by
  rw [later_iff he hf fit]
  have hE : 0 < addE e f := by unfold addE; split <;> omega
  have de : e ∣ addE e f ∧ f ∣ addE e f := by
    unfold addE
    split
    · rename_i h
      exact ⟨Int.dvd_refl e, fit_le he hf fit h⟩
    · rename_i h
      refine ⟨?_, Int.dvd_refl f⟩
      rcases fit with q | q
      · exact q
      · have := Int.le_of_dvd he q; omega
  constructor
  · intro h p _ _; exact h p
  · intro h p
    have a := Int.emod_nonneg p (b := addE e f) (by omega)
    have b := Int.emod_lt_of_pos p hE
    have k := h (p % addE e f) a b
    have d := emod_dvd_sub p (addE e f)
    have e1 := arr_period (t := t) (r := r) (p := p % addE e f) (Int.dvd_trans de.1 d)
    have e2 := arr_period (t := u) (r := s) (p := p % addE e f) (Int.dvd_trans de.2 d)
    rw [show p % addE e f + (p - p % addE e f) = p by omega] at e1 e2
    omega
theorem later_spots {e t r f u s : Int} (he : 0 < e) (hf : 0 < f) (fit : e ∣ f ∨ f ∣ e) : laterB e t r f u s = true ↔ arr e t r u ≤ arr f u s u ∧ arr e t r (t + 1) ≤ arr f u s (t + 1) := by
  constructor
  · intro h
    have := (later_iff he hf fit).mp h
    exact ⟨this u, this (t + 1)⟩
  · rintro ⟨h1, h2⟩
    unfold laterB
    rw [decide_eq_true_iff]
    unfold laterL
    split
    · rename_i h
      -- f is the lesser one: the start just behind a departure
      have a : arr e t r (t + 1) = t + e + r := by show dep e t (t + 1) + r = _; rw [dep_next he ⟨0, by omega⟩]
      have b : dep f u (t + 1) = t + 1 + (f - 1 - (t - u) % f) := by
        have m1 := Int.emod_nonneg (t - u) (b := f) (by omega)
        have m2 := Int.emod_lt_of_pos (t - u) hf
        refine dep_uniq ?_ (by omega) (by omega)
        have := Int.dvd_add (emod_dvd_sub (t - u) f) (Int.dvd_refl f)
        rw [show t - u - (t - u) % f + f = t + 1 + (f - 1 - (t - u) % f) - u by omega] at this
        exact this
      have h3 : arr e t r (t + 1) ≤ dep f u (t + 1) + s := h2
      rw [a, b] at h3
      omega
    · rename_i h
      have a : arr f u s u = u + s := by show dep f u u + s = _; rw [dep_self]
      have b : u + (t - u) % e + r ≤ arr f u s u := h1
      rw [a] at b
      omega
/-- with a walk behind: later by it -/
theorem add_walk {e t r v p : Int} (he : 0 < e) : arr (addE e 1) (addT e t r 1 0) (addR e t r 1 0 v) p = arr e t r p + v := by
  rw [add_arr he (by decide) (.inr (Int.one_dvd e))]
  show arr e t r p + (0 - arr e t r p) % 1 + v = _
  rw [Int.emod_one]; omega
theorem fit_walk {e : Int} (he : 0 < e) : addE e 1 = e := by unfold addE; rw [if_pos (by omega)]
theorem later_self {e t r : Int} (he : 0 < e) : laterB e t r e t r = true := (later_iff he he (.inl (Int.dvd_refl e))).mpr fun _ => Int.le_refl _
theorem later_walk {e t r v : Int} (he : 0 < e) (hv : 0 ≤ v) : laterB e t r (addE e 1) (addT e t r 1 0) (addR e t r 1 0 v) = true := by
  have k : 0 < addE e 1 := by rw [fit_walk he]; exact he
  refine (later_iff he k (.inl (by rw [fit_walk he]; exact Int.dvd_refl e))).mpr fun p => ?_
  rw [add_walk he]; omega
theorem walk_later {e t r v : Int} (he : 0 < e) (hv : 0 < v) : laterB (addE e 1) (addT e t r 1 0) (addR e t r 1 0 v) e t r = false := by
  have k : 0 < addE e 1 := by rw [fit_walk he]; exact he
  rw [Bool.eq_false_iff]
  intro h
  have := (later_iff k he (.inl (by rw [fit_walk he]; exact Int.dvd_refl e))).mp h 0
  rw [add_walk he] at this
  omega
end Xi

/-! ## Kw -/
/-! Methods called by keywords; list(range(n)); comprehensions over numbers; is of truth values. -/
namespace Xi
open PySem PySem.Spec PyProof.Rows L2
/-- a method whose arguments are given by name -/
structure MethK (P : Program) (w : World) (K : PySem.W.Frag) (mg : Str → Option Value) (base : Heap) (CX : CXT) (k : Nat) (Cs : Addr → Prop) (m : Str) (ks : List Str) (sp : Sp) : Prop where
  ex : ∃ f fd ps, Fk P w K mg base CX k f fd ps sp ∧ (∀ C, Cs C → Cls K C ∧ Meth K C m f) ∧ (∀ (s : Shared) (u : Value) (ws : List Value), ws.length = ks.length → BindsTo s fd ⟨[u], ks.zip ws⟩ (ps.zip (u :: ws))) ∧ ps.length = ks.length + 1
theorem FunC.okK {P : Program} {w : World} {K : PySem.W.Frag} {mg : Str → Option Value} {base : Heap} {k : Nat} {m qual : Str} {st : Stmt} {sp : Sp} {ps ks : List Str} {Cs : Addr → Prop} (F : FunC K Cs m qual st) (hc : ∀ C, Cs C → Cls K C)
    (b : ∀ f fd, Fun K m qual st f fd → ∀ (s : Shared) (u : Value) (ws : List Value), ws.length = ks.length → BindsTo s fd ⟨[u], ks.zip ws⟩ (ps.zip (u :: ws))) (hl : ps.length = ks.length + 1)
    (h : ∀ f fd, Fun K m qual st f fd → Fk P w K mg base CX0 k f fd ps sp) : MethK P w K mg base CX0 k Cs m ks sp := by
  obtain ⟨f, fd, F, hm⟩ := F.ex
  exact ⟨f, fd, ps, h f fd F, fun C c => ⟨hc C c, hm C c⟩, b f fd F, hl⟩
section
variable {X : Cx} {k : Nat} {Cs : Addr → Prop} {sp : Sp} {m : Str} {pos apos : Pos} {e o : Expr} {kws : List Keyword} {ks : List Str} {H0 : Hp} {M : Addr → Prop} {L : LL} {σ : L2.St} {Q : V → LL → Prop}
theorem ke_methK {pl : Sem Bool} (D : MethK X.prog X.w X.K X.mg X.base CX0 k Cs m ks sp) (hr : Room k X.A) (gd : X.A.guards = some [])
    (hall : (backToKw pos (keywordEach kws X.env)).all (·.1.isSome) = true) (hks : (backToKw pos (keywordEach kws X.env)).filterMap (·.1) = ks) (hpl : ((backTo pos (starEach [] X.env)).any (·.1) || (backToKw pos (keywordEach kws X.env)).any (·.1.isNone)) = false)
    (ht : eval (.Call (.Attribute o m apos) [] kws pos) X.env = (do
      let ov ← eval o X.env
      standAt apos.atName
      let (f, first) ← holding [ov] (getMethod ov m pl)
      callWith pos f first (backTo pos (starEach [] X.env)) (backToKw pos (keywordEach kws X.env))))
    (h : ke X H0 M o σ L fun y L1 => ∃ a C dx fs, y = .ref a ∧ At L1 a (.ins C dx fs) ∧ Cs C ∧ fs.lookup m = none ∧ kk X H0 M kws σ L1 fun vs L2 => rs H0 M sp EE (.ref a :: vs) L2 Q) :
    ke X H0 M (.Call (.Attribute o m apos) [] kws pos) σ L Q := fun H z pins s I => by
  obtain ⟨f, fd, ps, F, hc, hb, hln⟩ := D.ex
  refine PySem.W.methodCall_KW (pl := pl) (thn (h H z pins s I) fun u s1 ⟨y, H1, I1, ry, L1, z1, a, C, dx, fs, ey, ia, cC, nl, q⟩ => ?_) ht
  subst ey
  obtain rfl : u = Value.ref a := ry
  obtain ⟨c1, c2⟩ := hc C cC
  refine getmeth_ok I1 (z1.get ia) c1 c2 nl ?_
  refine PySem.W.callWith_KW0 (first := [.ref a]) (h₀ := X.base) I.ok.mod.kin c2.kp hall (thn (q H1 z1 pos pins s1 I1) fun ws s2 ⟨zs, H2, I2, r, L2, z2, q2⟩ => ⟨I2.kIn, ?_⟩) hpl
  rw [hks]
  have q3 := q2 H2 z2
  have rr : Vals (V.ref a :: zs) (Value.ref a :: ws) := .cons rfl r
  have ll : (Value.ref a :: ws).length = ps.length := rr.length.symm.trans (F.len _ _ _ _ q3)
  have lw : ws.length = ks.length := by
    rw [hln, List.length_cons] at ll
    omega
  refine wpAny_call (codeAny_mono (F.go X.A X.stack s2 H2 ⟨[.ref a], ks.zip ws⟩ (.ref a :: ws) (.ref a :: zs) _ EE hr gd I2.env0 (hb s2 (.ref a) ws lw) rr q3) fun res s3 hq => ?_)
  rcases res with er | fl
  · exact px0 (E := EE) pins σ H2 s2 er s3 I2 hq
  · cases fl with
    | ret u => exact I2.after hq
    | next => exact hq.elim
    | brk => exact hq.elim
    | cont => exact hq.elim
variable {P : Program} {w : World} {K : PySem.W.Frag} {mg : Str → Option Value} {base : Heap} {j : Nat} {N Nv : List Str} {sc : Scope}
theorem Body.methK (bd : Body X P w K mg base k N Nv sc) (D : MethK P w K mg base CX0 j Cs m ks sp) (hj : Nat.ble j k = true)
    (hall : (backToKw pos (keywordEach kws X.env)).all (·.1.isSome) = true) (hks : (backToKw pos (keywordEach kws X.env)).filterMap (·.1) = ks) (hpl : ((backTo pos (starEach [] X.env)).any (·.1) || (backToKw pos (keywordEach kws X.env)).any (·.1.isNone)) = false)
    (ht : ∃ pl : Sem Bool, eval (.Call (.Attribute o m apos) [] kws pos) X.env = (do
      let ov ← eval o X.env
      standAt apos.atName
      let (f, first) ← holding [ov] (getMethod ov m pl)
      callWith pos f first (backTo pos (starEach [] X.env)) (backToKw pos (keywordEach kws X.env))))
    (h : ke X H0 M o σ L fun y L1 => ∃ a C dx fs, y = .ref a ∧ At L1 a (.ins C dx fs) ∧ Cs C ∧ fs.lookup m = none ∧ kk X H0 M kws σ L1 fun vs L2 => rs H0 M sp EE (.ref a :: vs) L2 Q) :
    ke X H0 M (.Call (.Attribute o m apos) [] kws pos) σ L Q := by
  obtain ⟨pl, ht⟩ := ht
  have D' : MethK X.prog X.w X.K X.mg X.base CX0 j Cs m ks sp := by rw [bd.prog, bd.w, bd.K, bd.mg, bd.base]; exact D
  exact ke_methK D' (bd.rm (Nat.le_of_ble_eq_true hj)) bd.gd hall hks hpl ht h
/-- list(range(n)) -/
abbrev rgI (n : Int) : List Int := (List.range n.toNat).map fun (i : Nat) => (i : Int)
theorem rgV_eq (n : Int) : rgV 0 n = (rgI n).map V.int := by
  unfold rgV rgI
  rw [List.map_map, Int.sub_zero]
  refine List.map_congr_left fun i _ => ?_
  show V.int (0 + (i : Int)) = V.int (i : Int)
  rw [Int.zero_add]
theorem ke_listRg {a : Expr} {p p2 pos2 : Pos} (hc : X.calm = true) (hg : Gl X "list") (hm : X.mg "list" = none) (hg2 : Gl X "range") (hm2 : X.mg "range" = none) (na : starEach [a] X.env = (false, eval a X.env) :: starEach [] X.env)
    (na2 : starEach [.Call (.Name "range" p2) [a] [] pos2] X.env = (false, eval (.Call (.Name "range" p2) [a] [] pos2) X.env) :: starEach [] X.env)
    (h : ke X H0 M a σ L fun x L1 => ∃ n : Int, x = .int n ∧ 0 ≤ n ∧ n ≤ 16777216 ∧ New H0 (.lst ((rgI n).map V.int)) L1 Q) : ke X H0 M (.Call (.Name "list" p) [.Call (.Name "range" p2) [a] [] pos2] [] pos) σ L Q := fun H z =>
  we_of (pe_listRg hc hg hm (prg_1 hg2 hm2 pe_we na) na2) (we_mono (h H z) fun x H1 ⟨L1, z1, n, ex, h0, h1, q⟩ => ⟨n, ex, RgOk.of_le (by decide) h1 (by decide) h0, by rw [rgV_eq]; exact new_up z1 q⟩)
theorem ro_notBl {a b : Bool} (h : Q (.bl (!decide (a = b))) L) : ro X H0 M (compareOp .IsNot) (.bl a) (.bl b) L Q := ro_of op_notBl fun _ z => ⟨a, b, rfl, rfl, L, z, h⟩
theorem ro_isBl {a b : Bool} (h : Q (.bl (decide (a = b))) L) : ro X H0 M (compareOp .Is) (.bl a) (.bl b) L Q := ro_of op_isBl fun _ z => ⟨a, b, rfl, rfl, L, z, h⟩
end
theorem kf_to {X : Cx} {H0 : Hp} {M : Addr → Prop} {σ : L2.St} {L : LL} {ifs : List Expr} {Q : Bool → LL → Prop} (h : kf X H0 M ifs σ L Q) : kf X H0 M ifs σ L Q := h
/-- [f(x) for x in xs if p(x)], numbers; nothing else is made -/
theorem Body.klI {X : Cx} {elt tg iter : Expr} {ifs : List Expr} {scope : Scope} {H0 : Hp} {M : Addr → Prop} {L : LL} {σ : L2.St} {Q : V → LL → Prop} {P : Program} {w : World} {K : PySem.W.Frag} {mg : Str → Option Value} {base : Heap} {k : Nat} {N Nv Nw : List Str} {sc : Scope} (bd : Body X P w K mg base k N Nv sc) (ns : Ns X N Nw) (own : List (Str × Nat)) (Nb No : List Str) (p : Int → Bool) (f : Int → Int) (vis : ∀ x ∈ Nb, (relS scope sc).names.lookup x = some .local ∨ (relS scope sc).names.lookup x = some .cell ∨ (relS scope sc).names.lookup x = some .free) (pl : ∀ x ∈ Nb, (x == ("__debug__" : Str)) = false ∧ (x == ("__classdict__" : Str)) = false) (lc : ∀ x ∈ No, (relS scope sc).names.lookup x = some .local) 
    (h : ke X H0 M iter σ L fun v L1 => ∃ (a : Addr) (is : List Int), v = .ref a ∧ At L1 a (.lst (is.map V.int)) ∧ is.length ≤ 1000 ∧
      (∀ x ∈ is, ∀ D acc, H0 D = none → ∀ B, Body B P w K mg base k N Nb (relS scope sc) → Ns B N No → kg B H0 M tg (.int x) (wipe σ (own.map (·.2))) ((D, acc) :: L1) fun σ2 L2 => L2 = (D, acc) :: L1 ∧ wipe σ2 (own.map (·.2)) = wipe σ (own.map (·.2)) ∧
        ∀ B, Body B P w K mg base k N Nb (relS scope sc) → kf B H0 M ifs σ2 L2 fun b L3 => L3 = (D, acc) :: L1 ∧ b = p x ∧ (b = true → ∀ B, Body B P w K mg base k N Nb (relS scope sc) → ke B H0 M elt σ2 L3 fun y L4 => y = .int (f x) ∧ L4 = (D, acc) :: L1)) ∧
      ∀ D, H0 D = none → Q (.ref D) ((D, .lst (((is.filter p).map f).map V.int)) :: L1)) :
    kLc X H0 M elt tg iter ifs scope own σ L Q := by
  refine Body.kl bd ns own Nb No vis pl lc (ki_list fun H z => we_mono (h H z) fun v H1 ⟨L1, z1, a, is, ev, ia, hl, st, en⟩ => ⟨L1, z1, a, _, ev, ia, fun J wk D nD => ?_⟩)
  refine ⟨_, _, _, fun i L => L = (D, .lst ((((is.take i).filter p).map f).map V.int)) :: L1, wk, rfl, fun i L hi e => by rw [e]; exact .there ia, fun i x L L' hi e hx B bB nB => ?_, fun L e => ?_⟩
  · obtain ⟨e2, hx⟩ := hx
    subst e2
    subst e
    rw [List.getElem?_map] at hx
    obtain ⟨y, hy, rfl⟩ := Option.map_eq_some_iff.mp hx
    have hm := List.mem_of_getElem? hy
    have key := st y hm D (.lst ((((is.take i).filter p).map f).map V.int)) nD B bB nB
    refine fun H z pins s u I r => thn (key H z pins s u I r) fun _ s' ⟨σ', H', I', L2, z2, e3, e4, q⟩ => ⟨σ', H', I', L2, z2, e4, fun B2 bB2 => kf_mono (q B2 bB2) fun b L3 ⟨e5, e6, q2⟩ => ?_⟩
    subst e5
    cases b with
    | true =>
      rw [if_pos rfl]
      intro B3 bB3
      refine fun H z => we_mono (q2 rfl B3 bB3 H z) fun y2 H2 w => ?_
      obtain ⟨L4, z4, e7, e8⟩ := w
      subst e8
      subst e7
      refine ⟨_, z4, _, _, .here, ?_, _, .refl _, ?_⟩
      · rw [List.length_map, List.length_map]
        refine Nat.lt_of_le_of_lt (Nat.le_trans (List.length_filter_le _ _) (by rw [List.length_take]; exact Nat.min_le_right _ _)) (Nat.lt_of_le_of_lt hl (by decide))
      · dsimp only
        rw [take_snoc hy, List.filter_append, List.filter_cons, if_pos e6.symm, List.filter_nil, List.map_append, List.map_append]
        rfl
    | false =>
      rw [if_neg (by decide)]
      refine ⟨_, .refl _, ?_⟩
      dsimp only
      rw [take_snoc hy, List.filter_append, List.filter_cons, if_neg (by rw [← e6]; decide), List.filter_nil, List.append_nil]
  · subst e
    have := en D nD
    rw [List.length_map, List.take_length]
    exact this
theorem Body.lcI {X : Cx} {elt tg iter : Expr} {ifs : List Expr} {scope : Scope} {pos : Pos} {H0 : Hp} {M : Addr → Prop} {L : LL} {σ : L2.St} {Q : V → LL → Prop} {P : Program} {w : World} {K : PySem.W.Frag} {mg : Str → Option Value} {base : Heap} {k : Nat} {N Nv Nw : List Str} {sc : Scope} (bd : Body X P w K mg base k N Nv sc) (ns : Ns X N Nw) (own : List (Str × Nat)) (Nb No : List Str) (p : Int → Bool) (f : Int → Int) (ok : BlkOk N sc scope own) (vis : ∀ x ∈ Nb, (relS scope sc).names.lookup x = some .local ∨ (relS scope sc).names.lookup x = some .cell ∨ (relS scope sc).names.lookup x = some .free) (pl : ∀ x ∈ Nb, (x == ("__debug__" : Str)) = false ∧ (x == ("__classdict__" : Str)) = false) (lc : ∀ x ∈ No, (relS scope sc).names.lookup x = some .local) (hs : ∀ x, foldedSetIterable iter X.env x = pure x)
    (h : ke X H0 M iter σ L fun v L1 => ∃ (a : Addr) (is : List Int), v = .ref a ∧ At L1 a (.lst (is.map V.int)) ∧ is.length ≤ 1000 ∧
      (∀ x ∈ is, ∀ D acc, H0 D = none → ∀ B, Body B P w K mg base k N Nb (relS scope sc) → Ns B N No → kg B H0 M tg (.int x) (wipe σ (own.map (·.2))) ((D, acc) :: L1) fun σ2 L2 => L2 = (D, acc) :: L1 ∧ wipe σ2 (own.map (·.2)) = wipe σ (own.map (·.2)) ∧
        ∀ B, Body B P w K mg base k N Nb (relS scope sc) → kf B H0 M ifs σ2 L2 fun b L3 => L3 = (D, acc) :: L1 ∧ b = p x ∧ (b = true → ∀ B, Body B P w K mg base k N Nb (relS scope sc) → ke B H0 M elt σ2 L3 fun y L4 => y = .int (f x) ∧ L4 = (D, acc) :: L1)) ∧
      ∀ D, H0 D = none → Q (.ref D) ((D, .lst (((is.filter p).map f).map V.int)) :: L1)) :
    ke X H0 M (.ListComp elt [⟨tg, iter, ifs, 0⟩] scope pos) σ L Q :=
  ke_kl bd.calm (by rw [ns.eq]; exact ns.nd) (by rw [ns.eq, bd.scope]; exact ok) hs (Body.klI bd ns own Nb No p f vis pl lc h)
theorem dp_ints {K : PySem.W.Frag} {H : Hp} : ∀ is : List Int, DpAll K H (is.map V.int) (is.map PyData.int)
  | [] => .nil
  | i :: r => .cons (.int i) (dp_ints r)
theorem lay_ints : ∀ is : List Int, PyData.canLayAll0 (is.map PyData.int) = true ∧ PyData.depthAll (is.map PyData.int) ≤ 1
  | [] => ⟨by simp [PyData.canLayAll0], by simp [PyData.depthAll]⟩
  | i :: r => ⟨by have := (lay_ints r).1; simp only [List.map_cons, PyData.canLayAll0, PyData.canLay0, this, Bool.and_self], by have := (lay_ints r).2; simp only [List.map_cons, PyData.depthAll, PyData.depth]; omega⟩
theorem shL_ints (is : List Int) : SeqAt.shaped (.list (is.map PyData.int)) = true := Bool.and_eq_true_iff.mpr ⟨by simpa [PyData.canLay0] using (lay_ints is).1, decide_eq_true (by have := (lay_ints is).2; simp only [PyData.depth]; omega)⟩
theorem eqv_nil (is : List Int) : PyData.eqv (.list (is.map PyData.int)) (.list []) = is.isEmpty := by
  cases is with
  | nil => simp [PyData.eqv, PyData.eqvAll]
  | cons i r => simp [PyData.eqv, PyData.eqvAll]
theorem ro_eqNil {X : Cx} {H0 : Hp} {M : Addr → Prop} {L : LL} {Q : V → LL → Prop} {k : Nat} {p q : Addr} {is : List Int} (hr : Room k X.A) (ia : At L p (.lst (is.map V.int))) (ib : At L q (.lst [])) (h : Q (.bl is.isEmpty) L) : ro X H0 M (compareOp .Eq) (.ref p) (.ref q) L Q :=
  ro_of (op_eqD (by have := hr.un; omega)) fun H z => ⟨_, _, .lst (z.sq ia) (dp_ints is), .lst (xs := []) (ds := []) (z.sq ib) .nil, shL_ints is, (by decide +kernel : SeqAt.shaped (.list []) = true), L, z, by rw [eqv_nil]; exact h⟩
end Xi

/-! ## En -/
/-! Instances called by keywords; lists put together; comprehensions over enumerate. -/
namespace Xi
open PySem PySem.Spec PyProof.Rows L2
/-- instances called with arguments by name -/
structure CallK (P : Program) (w : World) (K : PySem.W.Frag) (mg : Str → Option Value) (base : Heap) (CX : CXT) (k : Nat) (Cs : Addr → Prop) (ks : List Str) (sp : Sp) : Prop where
  ex : ∃ f fd ps, Fk P w K mg base CX k f fd ps sp ∧ (∀ C, Cs C → StX.CallO K C f) ∧ (∀ (s : Shared) (u : Value) (ws : List Value), ws.length = ks.length → BindsTo s fd ⟨[u], ks.zip ws⟩ (ps.zip (u :: ws))) ∧ ps.length = ks.length + 1
theorem FunO.okK {P : Program} {w : World} {K : PySem.W.Frag} {mg : Str → Option Value} {base : Heap} {k : Nat} {qual : Str} {st : Stmt} {sp : Sp} {ps ks : List Str} {Cs : Addr → Prop} (F : FunO K Cs qual st)
    (b : ∀ f fd, Fun K "__call__" qual st f fd → ∀ (s : Shared) (u : Value) (ws : List Value), ws.length = ks.length → BindsTo s fd ⟨[u], ks.zip ws⟩ (ps.zip (u :: ws))) (hl : ps.length = ks.length + 1)
    (h : ∀ f fd, Fun K "__call__" qual st f fd → Fk P w K mg base CX0 k f fd ps sp) : CallK P w K mg base CX0 k Cs ks sp := by
  obtain ⟨f, fd, F, hm⟩ := F.ex
  exact ⟨f, fd, ps, h f fd F, hm, b f fd F, hl⟩
theorem own_with {M : Model} {A : Around} {E : Value → Shared → Prop} {s : Shared} {a : Addr} {pos : Pos} {Q : Value → Shared → Prop} {args : List (Bool × Sem Value)} {kw : List (Option Str × Sem Value)} (hp : (args.any (·.1) || kw.any (·.1.isNone)) = false)
    (h : wpAny M A (evalArgs (.ref a) true args kw) (fun z s1 => (∃ C ox od, PySem.W.InstAt s1.heap a ox C od ∧ ox.data = .plain) ∧ wpAny M A (call (.ref a) ([] ++ z.pos) z.kw) Q E s1) E s) : wpAny M A (callWith pos (.ref a) [] args kw) Q E s := by
  unfold callWith
  refine wpAny_bind (wpAny_holding (wpAny_mono h ?_ fun _ _ y => y))
  rintro z s1 ⟨⟨C, ox, od, J, hd⟩, h1⟩
  refine wpAny_bind (wpAny_standAt ?_)
  have keeper := PySem.W.kco_keeper (M := M) J hd
  simp only [hp]
  refine wpAny_bind (keeper.here ?_)
  have over : ∀ {t : Sem Value}, wpAny M A t Q E s1 → wpAny M A (t >>= fun r => holding [r] point >>= fun _ => pure r) Q E s1 := fun ht => by
    refine wpAny_bind (wpAny_mono ht (fun r s2 hr => ?_) fun _ _ y => y)
    exact wpAny_bind (wpAny_holding (wpAny_point (wpAny_pure hr)))
  exact over (wpAny_operateT h1)
section
variable {X : Cx} {k j : Nat} {Cs : Addr → Prop} {sp : Sp} {pos : Pos} {fe : Expr} {kws : List Keyword} {ks : List Str} {H0 : Hp} {M : Addr → Prop} {L : LL} {σ : L2.St} {Q : V → LL → Prop}
variable {P : Program} {w : World} {K : PySem.W.Frag} {mg : Str → Option Value} {base : Heap} {N Nv : List Str} {sc : Scope}
theorem Body.callK (bd : Body X P w K mg base k N Nv sc) (D : CallK P w K mg base CX0 j Cs ks sp) (hj : Nat.ble j k = true)
    (hall : (backToKw pos (keywordEach kws X.env)).all (·.1.isSome) = true) (hks : (backToKw pos (keywordEach kws X.env)).filterMap (·.1) = ks) (hpl : ((backTo pos (starEach [] X.env)).any (·.1) || (backToKw pos (keywordEach kws X.env)).any (·.1.isNone)) = false)
    (ht : eval (.Call fe [] kws pos) X.env = (do callWith pos (← eval fe X.env) [] (backTo pos (starEach [] X.env)) (backToKw pos (keywordEach kws X.env))))
    (h : ke X H0 M fe σ L fun y L1 => ∃ a, y = .ref a ∧ kk X H0 M kws σ L1 fun vs L2 => (∃ C dx fs, At L2 a (.ins C dx fs) ∧ Cs C) ∧ rs H0 M sp EE (.ref a :: vs) L2 Q) :
    ke X H0 M (.Call fe [] kws pos) σ L Q := fun H z pins s I => by
  obtain ⟨f, fd, ps, F, hc, hb, hln⟩ := D.ex
  rw [← bd.prog, ← bd.w, ← bd.K, ← bd.mg, ← bd.base] at F
  rw [← bd.K] at hc
  have hr := bd.rm (Nat.le_of_ble_eq_true hj)
  rw [ht]
  refine wpAny_bind (thn (h H z pins s I) fun u s1 ⟨y, H1, I1, ry, L1, z1, a, ey, q⟩ => ?_)
  subst ey
  obtain rfl : u = Value.ref a := ry
  refine own_with hpl (evalArgs_kw2_nil hall (thn (q H1 z1 pos pins s1 I1) fun ws s2 ⟨zs, H2, I2, r, L2, z2, ⟨C, dx, fs, ia, cC⟩, q2⟩ => ?_))
  rw [hks]
  obtain ⟨ox, od, J, hd⟩ := StX.insC_at I2 (.inr ⟨dx, fs, z2.get ia⟩)
  have c := hc C cC
  have q3 := q2 H2 z2
  have rr : Vals (V.ref a :: zs) (Value.ref a :: ws) := .cons rfl r
  have ll : (Value.ref a :: ws).length = ps.length := rr.length.symm.trans (F.len _ _ _ _ q3)
  have lw : ws.length = ks.length := by
    rw [hln, List.length_cons] at ll
    omega
  refine ⟨⟨C, ox, od, J, hd⟩, wpAny_call (PySem.W.kco_code I2.kIn J hd c.at_ c.fn c.fi (codeAny_mono (F.go X.A X.stack s2 H2 ⟨[.ref a], ks.zip ws⟩ (.ref a :: ws) (.ref a :: zs) _ EE hr bd.gd I2.env0 (hb s2 (.ref a) ws lw) rr q3) fun res s3 hq => ?_))⟩
  rcases res with er | fl
  · exact px0 (E := EE) pins σ H2 s2 er s3 I2 hq
  · cases fl with
    | ret u => exact I2.after hq
    | next => exact hq.elim
    | brk => exact hq.elim
    | cont => exact hq.elim
/-- xs + ys, lists: a new one -/
theorem ro_cat {p q : Addr} {xs ys : List V} (ia : At L p (.lst xs)) (ib : At L q (.lst ys)) (hl : xs.length + ys.length ≤ sizeLine) (h : New H0 (.lst (xs ++ ys)) L Q) : ro X H0 M (binaryOp .Add) (.ref p) (.ref q) L Q :=
  ro_of op_cat fun H z => ⟨p, q, xs, ys, rfl, rfl, z.get ia, z.get ib, hl, new_up z h⟩
theorem ro_neNil {p q : Addr} {is : List Int} (hr : Room k X.A) (ia : At L p (.lst (is.map V.int))) (ib : At L q (.lst [])) (h : Q (.bl (!is.isEmpty)) L) : ro X H0 M (compareOp .NotEq) (.ref p) (.ref q) L Q :=
  ro_of (op_neD (by have := hr.un; omega)) fun H z => ⟨_, _, .lst (z.sq ia) (dp_ints is), .lst (xs := []) (ds := []) (z.sq ib) .nil, shL_ints is, (by decide +kernel : SeqAt.shaped (.list []) = true), L, z, by rw [eqv_nil]; exact h⟩
end
/-- the numbers of [f(i, x) for i, x in enumerate(xs) if p(i, x)] -/
abbrev enumF (p : Nat → Int → Bool) (f : Nat → Int → Int) (is : List Int) : List Int := (is.zipIdx.filter fun q => p q.2 q.1).map fun q => f q.2 q.1
theorem Body.klE {X : Cx} {elt e : Expr} {elts : List Expr} {kk' : Nat} {tpos pp pe : Pos} {ifs : List Expr} {scope : Scope} {H0 : Hp} {M : Addr → Prop} {L : LL} {σ : L2.St} {Q : V → LL → Prop} {P : Program} {w : World} {K : PySem.W.Frag} {mg : Str → Option Value} {base : Heap} {k : Nat} {N Nv Nw : List Str} {sc : Scope} (bd : Body X P w K mg base k N Nv sc) (ns : Ns X N Nw) (own : List (Str × Nat)) (Nb No : List Str) (p : Nat → Int → Bool) (f : Nat → Int → Int) (vis : ∀ x ∈ Nb, (relS scope sc).names.lookup x = some .local ∨ (relS scope sc).names.lookup x = some .cell ∨ (relS scope sc).names.lookup x = some .free) (pl : ∀ x ∈ Nb, (x == ("__debug__" : Str)) = false ∧ (x == ("__classdict__" : Str)) = false) (lc : ∀ x ∈ No, (relS scope sc).names.lookup x = some .local)
    (hg : Gl X "enumerate") (hm : X.mg "enumerate" = none) (hse : starEach [e] X.env = [(false, eval e X.env)]) 
    (h : ke X H0 M e σ L fun v L1 => ∃ (a : Addr) (is : List Int), v = .ref a ∧ At L1 a (.lst (is.map V.int)) ∧ is.length ≤ 1000 ∧
      (∀ (i : Nat) (x : Int), is[i]? = some x → ∀ D acc T, H0 D = none → H0 T = none → ∀ B, Body B P w K mg base k N Nb (relS scope sc) → Ns B N No → kg B H0 M (.Tuple elts kk' tpos) (.ref T) (wipe σ (own.map (·.2))) ((T, .tup [.int i, .int x]) :: (D, acc) :: L1) fun σ2 L2 => L2 = (T, .tup [.int i, .int x]) :: (D, acc) :: L1 ∧ wipe σ2 (own.map (·.2)) = wipe σ (own.map (·.2)) ∧
        ∀ B, Body B P w K mg base k N Nb (relS scope sc) → kf B H0 M ifs σ2 L2 fun b L3 => L3 = (T, .tup [.int i, .int x]) :: (D, acc) :: L1 ∧ b = p i x ∧ (b = true → ∀ B, Body B P w K mg base k N Nb (relS scope sc) → ke B H0 M elt σ2 L3 fun y L4 => y = .int (f i x) ∧ L4 = (T, .tup [.int i, .int x]) :: (D, acc) :: L1)) ∧
      ∀ D, H0 D = none → Q (.ref D) ((D, .lst ((enumF p f is).map V.int)) :: L1)) :
    kLc X H0 M elt (.Tuple elts kk' tpos) (.Call (.Name "enumerate" pp) [e] [] pe) ifs scope own σ L Q := by
  refine Body.kl bd ns own Nb No vis pl lc (ki_enum hg hm hse fun H z => we_mono (h H z) fun v H1 ⟨L1, z1, a, is, ev, ia, hl, st, en⟩ => ⟨L1, z1, a, _, ev, ia, fun J wk D nD => ?_⟩)
  refine ⟨_, _, _, fun i L => L = (D, .lst ((enumF p f (is.take i)).map V.int)) :: L1, wk, rfl, fun i L hi e => by rw [e]; exact .there ia, fun i x L L' hi e hx B bB nB => ?_, fun L e => ?_⟩
  · obtain ⟨T, y, ex, nT, hy, e2⟩ := hx
    subst ex e2 e
    rw [List.getElem?_map] at hy
    obtain ⟨y, hy', rfl⟩ := Option.map_eq_some_iff.mp hy
    clear hy
    have hy := hy'
    have il : i < is.length := by rw [List.length_map] at hi; exact hi
    have tl : (is.take i).length = i := by rw [List.length_take]; omega
    have key := st i y hy D (.lst ((enumF p f (is.take i)).map V.int)) T nD nT B bB nB
    have snoc : (is.take (i + 1)).zipIdx = (is.take i).zipIdx ++ [(y, i)] := by
      rw [take_snoc hy, List.zipIdx_append, tl, Nat.zero_add]; rfl
    refine fun H z pins s u I r => thn (key H z pins s u I r) fun _ s' ⟨σ', H', I', L2, z2, e3, e4, q⟩ => ⟨σ', H', I', L2, z2, e4, fun B2 bB2 => kf_mono (q B2 bB2) fun b L3 ⟨e5, e6, q2⟩ => ?_⟩
    subst e5
    cases b with
    | true =>
      rw [if_pos rfl]
      intro B3 bB3
      refine fun H z => we_mono (q2 rfl B3 bB3 H z) fun y2 H2 w => ?_
      obtain ⟨L4, z4, e7, e8⟩ := w
      subst e8 e7
      refine ⟨_, z4, _, _, .there .here, ?_, _, .cons _ (.refl _), ?_⟩
      · rw [List.length_map, List.length_map]
        refine Nat.lt_of_le_of_lt (Nat.le_trans (List.length_filter_le _ _) (by rw [List.length_zipIdx, List.length_take]; exact Nat.min_le_right _ _)) (Nat.lt_of_le_of_lt hl (by decide))
      · dsimp only [enumF]
        rw [snoc, List.filter_append, List.filter_cons, if_pos e6.symm, List.filter_nil, List.map_append, List.map_append]
        rfl
    | false =>
      rw [if_neg (by decide)]
      refine ⟨_, .cons _ (.refl _), ?_⟩
      dsimp only [enumF]
      rw [snoc, List.filter_append, List.filter_cons, if_neg (by rw [← e6]; decide), List.filter_nil, List.append_nil]
  · subst e
    have := en D nD
    rw [List.length_map, List.take_length]
    exact this
theorem Body.lcE {X : Cx} {elt e : Expr} {elts : List Expr} {kk' : Nat} {tpos pp pe : Pos} {ifs : List Expr} {scope : Scope} {pos : Pos} {H0 : Hp} {M : Addr → Prop} {L : LL} {σ : L2.St} {Q : V → LL → Prop} {P : Program} {w : World} {K : PySem.W.Frag} {mg : Str → Option Value} {base : Heap} {k : Nat} {N Nv Nw : List Str} {sc : Scope} (bd : Body X P w K mg base k N Nv sc) (ns : Ns X N Nw) (own : List (Str × Nat)) (Nb No : List Str) (p : Nat → Int → Bool) (f : Nat → Int → Int) (ok : BlkOk N sc scope own) (vis : ∀ x ∈ Nb, (relS scope sc).names.lookup x = some .local ∨ (relS scope sc).names.lookup x = some .cell ∨ (relS scope sc).names.lookup x = some .free) (pl : ∀ x ∈ Nb, (x == ("__debug__" : Str)) = false ∧ (x == ("__classdict__" : Str)) = false) (lc : ∀ x ∈ No, (relS scope sc).names.lookup x = some .local)
    (hg : Gl X "enumerate") (hm : X.mg "enumerate" = none) (hse : starEach [e] X.env = [(false, eval e X.env)]) (hs : ∀ x, foldedSetIterable (.Call (.Name "enumerate" pp) [e] [] pe) X.env x = pure x)
    (h : ke X H0 M e σ L fun v L1 => ∃ (a : Addr) (is : List Int), v = .ref a ∧ At L1 a (.lst (is.map V.int)) ∧ is.length ≤ 1000 ∧
      (∀ (i : Nat) (x : Int), is[i]? = some x → ∀ D acc T, H0 D = none → H0 T = none → ∀ B, Body B P w K mg base k N Nb (relS scope sc) → Ns B N No → kg B H0 M (.Tuple elts kk' tpos) (.ref T) (wipe σ (own.map (·.2))) ((T, .tup [.int i, .int x]) :: (D, acc) :: L1) fun σ2 L2 => L2 = (T, .tup [.int i, .int x]) :: (D, acc) :: L1 ∧ wipe σ2 (own.map (·.2)) = wipe σ (own.map (·.2)) ∧
        ∀ B, Body B P w K mg base k N Nb (relS scope sc) → kf B H0 M ifs σ2 L2 fun b L3 => L3 = (T, .tup [.int i, .int x]) :: (D, acc) :: L1 ∧ b = p i x ∧ (b = true → ∀ B, Body B P w K mg base k N Nb (relS scope sc) → ke B H0 M elt σ2 L3 fun y L4 => y = .int (f i x) ∧ L4 = (T, .tup [.int i, .int x]) :: (D, acc) :: L1)) ∧
      ∀ D, H0 D = none → Q (.ref D) ((D, .lst ((enumF p f is).map V.int)) :: L1)) :
    ke X H0 M (.ListComp elt [⟨.Tuple elts kk' tpos, .Call (.Name "enumerate" pp) [e] [] pe, ifs, 0⟩] scope pos) σ L Q :=
  ke_kl bd.calm (by rw [ns.eq]; exact ns.nd) (by rw [ns.eq, bd.scope]; exact ok) hs (Body.klE bd ns own Nb No p f vis pl lc hg hm hse h)
end Xi

/-! ## Num3 -/
/-! Starts in a row that are picked. -/
namespace Xi
theorem zipIdx_range {α : Type} (g : Nat → α) : ∀ n : Nat, ((List.range n).map g).zipIdx = (List.range n).map fun i => (g i, i)
  | 0 => rfl
  | n + 1 => by
    rw [List.range_succ, List.map_append, List.map_append, List.zipIdx_append, zipIdx_range g n, List.length_map, List.length_range, Nat.zero_add]; rfl
theorem filter_run (a b : Nat) : ∀ n : Nat, (List.range n).filter (fun i => decide (a ≤ i ∧ i < b)) = List.range' a (min b n - a)
  | 0 => by simp
  | n + 1 => by
    rw [List.range_succ, List.filter_append, filter_run a b n]
    by_cases h : a ≤ n ∧ n < b
    · rw [List.filter_cons, if_pos (decide_eq_true h), List.filter_nil, show min b (n + 1) - a = (min b n - a) + 1 by omega, List.range'_concat, show a + 1 * (min b n - a) = n by omega]
    · rw [List.filter_cons, if_neg (by simpa using h), List.filter_nil, List.append_nil]
      congr 1
      omega
theorem enum_run {p : Nat → Int → Bool} {f : Nat → Int → Int} {g : Nat → Int} {n a b : Nat} {low : Int} (hb : b ≤ n) (hp : ∀ i, i < n → p i (g i) = decide (a ≤ i ∧ i < b)) (hf : ∀ i x, f i x = low + i) :
    (((((List.range n).map g).zipIdx).filter fun q => p q.2 q.1).map fun q => f q.2 q.1) = (List.range' a (b - a)).map fun (i : Nat) => low + (i : Int) := by
  rw [zipIdx_range, List.filter_map, List.map_map]
  have e : (List.range n).filter ((fun q : Int × Nat => p q.2 q.1) ∘ fun i => (g i, i)) = (List.range n).filter fun i => decide (a ≤ i ∧ i < b) := by
    refine List.filter_congr fun i hi => ?_
    exact hp i (List.mem_range.mp hi)
  rw [e, filter_run, show min b n = b by omega]
  refine List.map_congr_left fun i _ => ?_
  exact hf i (g i)
theorem run_last {low : Int} {a m : Nat} : (List.range' a (m + 1)).map (fun (i : Nat) => low + (i : Int)) = (List.range' a m).map (fun (i : Nat) => low + (i : Int)) ++ [low + ((a + m : Nat) : Int)] := by
  rw [List.range'_concat, List.map_append, Nat.one_mul]; rfl
theorem run_first {low : Int} {a m : Nat} : (List.range' a (m + 1)).map (fun (i : Nat) => low + (i : Int)) = (low + (a : Int)) :: (List.range' (a + 1) m).map (fun (i : Nat) => low + (i : Int)) := by
  rw [List.range'_succ]; rfl
/-- the starts with an arrival -/
theorem arr_eq {e t r p q : Int} (he : 0 < e) : arr e t r p = q ↔ lat e t r q + r = q ∧ lat e t r q - e < p ∧ p ≤ lat e t r q := by
  have a1 := dep_ge (t := t) (p := p) he
  have a2 := dep_lt (t := t) (p := p) he
  have a3 := dep_on e t p
  constructor
  · intro h
    have h1 : dep e t p + r = q := h
    have : lat e t r q = dep e t p := lat_uniq a3 (by omega) (by omega)
    rw [this]
    omega
  · rintro ⟨h1, h2, h3⟩
    have b3 := lat_on e t r q
    have : dep e t p = lat e t r q := dep_uniq b3 (by omega) (by omega)
    show dep e t p + r = q
    rw [this]; exact h1
end Xi

/-! ## Rt -/
/-! Defs with a star; calls with a star; class methods; the length of an instance. -/
namespace Xi
open PySem PySem.Spec PyProof.Rows L2 StX
/-- a def that is called by position alone -/
structure FkR (P : Program) (w : World) (K : PySem.W.Frag) (mg : Str → Option Value) (base : Heap) (CX : CXT) (k : Nat) (f : Addr) (sp : Sp) : Prop where
  go : ∀ (A : Around) (out : List Env) (s : Shared) (H : Hp) (us : List Value) (vs : List V) (Q : VK) (E : XK), Room k A → A.guards = some [] → Env0 P w K mg base A out s H → Vals vs us → sp vs H Q E →
    codeAny (model P w) A (.call (.ref f) ⟨us, []⟩) (CR CX out P w H s Q E) s
/-- vs: n values, then any number, told as a new tuple -/
def spStar (n : Nat) (sp : Sp) : Sp := fun vs H Q E => ∃ ws rest, vs = ws ++ rest ∧ ws.length = n ∧ rest.length ≤ sizeLine ∧ ∀ p, H p = none → sp (ws ++ [V.ref p]) (upd H p (.tup rest)) Q E
section
variable {P : Program} {w : World} {K : PySem.W.Frag} {mg : Str → Option Value} {base : Heap} {k : Nat} {f : Addr} {fd : FuncData} {x qual : Str} {st : Stmt} {ss : List Stmt} {N Nv ps : List Str} {pv : Str} {sp : Sp}
/-- def f(a, .., *v) by its body -/
theorem fk_star (F : Fun K x qual st f fd) (S : FnScope N (ps ++ [pv]) (defScope st))
    (l : ∀ x ∈ Nv, (defScope st).names.lookup x = some .local ∨ (defScope st).names.lookup x = some .cell) (p : ∀ x ∈ Nv, (x == ("__debug__" : Str)) = false ∧ (x == ("__classdict__" : Str)) = false) (eb : defBody st = ss)
    (hb : ∀ us rest : List Value, us.length = ps.length → bindArgs fd ⟨us ++ rest, []⟩ = (newTuple rest >>= fun t => pure (ps.zip us ++ [(pv, t)])))
    (hbody : ∀ (X : Cx), Body X P w K mg base k N Nv (defScope st) → Ns X N Nv → ∀ (H : Hp) (vs : List V) (Q : VK) (E : XK), sp vs H Q E → wb X ss { nx := fun _ H' => Q .non H', rt := Q } (start N vs) H) : FkR P w K mg base CX0 (k + 1) f (spStar ps.length sp) := by
  obtain ⟨oc, od, kV, doc, pm, an, cdv, ct, osl, efd, lk, hcode⟩ := F.ex
  subst efd
  refine ⟨fun A out s H us vs Q E hr gd e0 r hsp => ?_⟩
  obtain ⟨ws, rest, ev, hl, hz, hq⟩ := hsp
  subst ev
  obtain ⟨u1, u2, eu, r1, r2⟩ := vals_split r
  subst eu
  have hn : H s.heap.objs.size = Option.none := e0.hok.fresh (Nat.le_refl _)
  have hl1 : u1.length = ps.length := by rw [← r1.length]; exact hl
  have hl2 : u2.length ≤ sizeLine := by rw [← r2.length]; exact hz
  refine run_bnd (N := N) (ps := ps ++ [pv]) lk hcode S hr e0 (G := fun xs H2 => ∃ p, H p = Option.none ∧ xs = ws ++ [V.ref p] ∧ H2 = upd H p (.tup rest)) (fun A' Ex Q' h => ?_) fun s2 H2 xs ⟨p, hp, ex, eH⟩ hr' => ?_
  · rw [hb u1 u2 hl1]
    refine wpAny_bind (wpAny_newTuple (wpAny_pure ?_) hl2)
    have new : ObjOk P w (upd H s.heap.objs.size (.tup rest)) (s.heap.push ({ cls := .type "tuple", data := .seq u2.toArray } : Obj)) s.heap.objs.size (.tup rest) := ⟨hz, u2, r2, ⟨_, Heap.get?_push_size _ rfl, rfl, _, rfl⟩⟩
    have un := un_laid (fs := frs out) (s := s) (o := ({ cls := .type "tuple", data := .seq u2.toArray } : Obj)) (u := .tup rest) hn
    have z := h _ _ (ws ++ [V.ref s.heap.objs.size]) (u1 ++ [Value.ref s.heap.objs.size]) (env0_laid e0 new) un rfl (fun e s' z => z.elim) (r1.append (.cons rfl .nil))
      (by rw [List.length_append, List.length_append, hl] <;> rfl) ⟨_, hn, rfl, rfl⟩
    rw [List.zip_append hl1.symm] at z
    exact z
  · subst ex eH
    have bd : Body (cxOf CX0 P w K mg base N qual (defScope st) f cdv A out s2 (upd H p (.tup rest)) E).nox P w K mg base k N Nv (defScope st) := ⟨rfl, rfl, rfl, rfl, rfl, hr', gd, ⟨rfl, fun x m => (l x m).elim .inl fun z => .inr (.inl z), ‹_›⟩, rfl, rfl, PassesOwn.never⟩
    exact ⟨_, PSs.nox pb_wb, by rw [eb]; exact hbody _ bd ⟨rfl, S.nd, fun x m => ⟨l x m, .inl rfl⟩⟩ _ _ Q E (hq p hp)⟩
theorem FkR.up {CX : CXT} {j : Nat} (F : FkR P w K mg base CX j f sp) (h : j ≤ k) : FkR P w K mg base CX k f sp := ⟨fun A out s H us vs Q E r => F.go A out s H us vs Q E (r.mono h)⟩
end
/-- a class whose __init__ is called by position -/
structure MakeR (P : Program) (w : World) (K : PySem.W.Frag) (mg : Str → Option Value) (base : Heap) (k : Nat) (C : Addr) (sp : Sp) : Prop where
  ex : ∃ f, FkR P w K mg base CX0 k f sp ∧ Mk K C f
/-- a class method of the class C -/
structure CMethT (P : Program) (w : World) (K : PySem.W.Frag) (mg : Str → Option Value) (base : Heap) (k : Nat) (C : Addr) (m : Str) (sp : Sp) : Prop where
  ex : ∃ f fd ps p mc, Fk P w K mg base CX0 k f fd ps sp ∧ ClX.CRead K C mc ∧ ClX.CMet K C mc m p f ∧ Binds K fd ps []
/-- a family with a length of their own -/
structure LenT (P : Program) (w : World) (K : PySem.W.Frag) (mg : Str → Option Value) (base : Heap) (k : Nat) (Cs : Addr → Prop) (sp : Sp) : Prop where
  ex : ∃ f fd ps, Fk P w K mg base CX0 k f fd ps sp ∧ (∀ C, Cs C → PySem.W.findIn K (.ref C) "__len__" = some (some (.ref f)) ∧ PySem.W.isFn K (.ref f) = true) ∧ Binds K fd ps []
section
variable {X : Cx} {P : Program} {w : World} {K : PySem.W.Frag} {mg : Str → Option Value} {base : Heap} {k j : Nat} {N Nv : List Str} {sc : Scope} {sp : Sp} {x m : Str} {C : Addr} {Cs : Addr → Prop}
variable {p pos apos sp_ : Pos} {e o fe : Expr} {es : List Expr} {H0 : Hp} {M : Addr → Prop} {L : LL} {σ : L2.St} {Q : V → LL → Prop}
theorem make_run {pins : List (Addr × Obj)} {H1 : Hp} {L1 : LL} {us : List Value} {vs : List V} {s1 : Shared} {f : Addr} (bd : Body X P w K mg base k N Nv sc) (F : FkR P w K mg base CX0 j f sp) (mk : Mk K C f) (hj : Nat.ble (j + 1) k = true) (I1 : Inv X pins σ H1 s1) (r : Vals vs us) (z1 : Hs H0 M L1 H1)
    (q : ∀ y dy, H0 y = none → H0 dy = none → rs H0 M sp EE (.ref y :: vs) ((y, .ins C dy []) :: (dy, .own y) :: L1) fun v L2 => v = .non ∧ Q (.ref y) L2) : wpAny (model X.prog X.w) X.A (call (.ref C) us) (EP X pins σ (up H0 M Q)) X.xe s1 := by
  have hr : Room (j + 1) X.A := bd.rm (Nat.le_of_ble_eq_true hj)
  rw [← bd.prog, ← bd.w, ← bd.K, ← bd.mg, ← bd.base] at F
  rw [← bd.K] at mk
  have n1 : H1 (s1.heap.objs.size + 1) = none := I1.hok.fresh (Nat.le_succ _)
  have n0 : H1 s1.heap.objs.size = none := I1.hok.fresh (Nat.le_refl _)
  have z2 := (z1.new (o := .own (s1.heap.objs.size + 1)) n0).new (o := .ins C s1.heap.objs.size []) (p := s1.heap.objs.size + 1) (by rw [upd_ne (Nat.succ_ne_self _)]; exact n1)
  have q2 := q (s1.heap.objs.size + 1) s1.heap.objs.size (z1.fresh n1) (z1.fresh n0) _ z2
  have I2 := Inv.made (C := C) I1
  have rr : Vals (V.ref (s1.heap.objs.size + 1) :: vs) (Value.ref (s1.heap.objs.size + 1) :: us) := .cons rfl r
  have gd2 : (X.A.under (.builtin "type.__call__" ⟨.ref C :: us, []⟩)).guards = some [] := by
    show pushGuards (Code.builtin "type.__call__" ⟨.ref C :: us, []⟩).guards X.A.guards = some []
    rw [bd.gd]
    simp [Code.guards, Code.isGuard, guardIds, pushGuards]
  refine wpAny_call (make_map (f := f) I1.kIn mk.makes mk.init (beq_iff_eq.mp mk.fn) (codeAny_mono (F.go _ X.stack _ _ _ _ _ EE (hr.make C us []) gd2 (I2.env0.make C us []) rr q2) fun res s2 hq => ?_))
  rcases res with er | fl
  · exact px0 (E := EE) pins σ _ _ er s2 I2 hq
  · cases fl with
    | ret u =>
      obtain ⟨v, H', I3, rv, L3, z3, ev, q3⟩ := I2.after hq
      subst ev
      exact ⟨rv, ⟨V.ref (s1.heap.objs.size + 1), H', I3, rfl, L3, z3, q3⟩⟩
    | next => exact hq.elim
    | brk => exact hq.elim
    | cont => exact hq.elim
/-- C(*e), C a class that a name tells -/
theorem Body.makeS (bd : Body X P w K mg base k N Nv sc) (D : MakeR P w K mg base j C sp) (hj : Nat.ble (j + 1) k = true) (hst : starEach [.Starred e sp_] X.env = [(true, eval e X.env)])
    (h : ke X H0 M (.Name x p) σ L fun v L1 => v = .ref C ∧ ke X H0 M e σ L1 fun y L2 => ∃ a xs, y = .ref a ∧ (At L2 a (.tup xs) ∨ At L2 a (.lst xs)) ∧
      ∀ y dy, H0 y = none → H0 dy = none → rs H0 M sp EE (.ref y :: xs) ((y, .ins C dy []) :: (dy, .own y) :: L2) fun v L3 => v = .non ∧ Q (.ref y) L3) :
    ke X H0 M (.Call (.Name x p) [.Starred e sp_] [] pos) σ L Q := fun H z pins s I => by
  obtain ⟨f, F, mk⟩ := D.ex
  refine wpAny_Call_Name_kw (thn (h H z pins s I) fun u s1 ⟨v, H1, I1, rv, L1, z1, ev, q⟩ => ?_)
  subst ev
  obtain rfl : u = Value.ref C := rv
  refine PySem.W.callWith_S (h₀ := X.base) I.ok.mod.kin (by rw [bd.K]; exact mk.kp) (thn (q H1 z1 pins s1 I1) fun u s2 ⟨y, H2, I2, ry, L2, z2, a, xs, ey, hx, q2⟩ => ?_) hst
  subst ey
  obtain rfl : u = Value.ref a := ry
  exact star_any I2 (hx.elim (fun h => .inl (z2.st h)) fun h => .inr (z2.sq h)) fun us s3 I3 r3 => ⟨I3.kIn, make_run bd F mk hj I3 r3 z2 q2⟩
/-- C(e, ..), the def with a star -/
theorem Body.makeP (bd : Body X P w K mg base k N Nv sc) (D : MakeR P w K mg base j C sp) (hj : Nat.ble (j + 1) k = true) (he : starEach (e :: es) X.env = (false, eval e X.env) :: starEach es X.env) (hpl : (backTo pos (starEach es X.env)).any (·.1) = false)
    (h : ke X H0 M (.Name x p) σ L fun v L1 => v = .ref C ∧ ka X H0 M (e :: es) σ L1 fun xs L2 => ∀ y dy, H0 y = none → H0 dy = none → rs H0 M sp EE (.ref y :: xs) ((y, .ins C dy []) :: (dy, .own y) :: L2) fun v L3 => v = .non ∧ Q (.ref y) L3) :
    ke X H0 M (.Call (.Name x p) (e :: es) [] pos) σ L Q := fun H z pins s I => by
  obtain ⟨f, F, mk⟩ := D.ex
  refine wpAny_Call_Name_kw (thn (h H z pins s I) fun u s1 ⟨v, H1, I1, rv, L1, z1, ev, q⟩ => ?_)
  subst ev
  obtain rfl : u = Value.ref C := rv
  refine PySem.W.callWith_K (h₀ := X.base) I.ok.mod.kin (by rw [bd.K]; exact mk.kp) (thn (q H1 z1 pos pins s1 I1) fun us s2 ⟨vs, H2, I2, r2, L2, z2, q2⟩ => ⟨I2.kIn, make_run bd F mk hj I2 r2 z2 q2⟩) he hpl
/-- C.m(e, ..), a class method -/
theorem Body.cmeth (bd : Body X P w K mg base k N Nv sc) (D : CMethT P w K mg base j C m sp) (hj : Nat.ble j k = true)
    (he : starEach (e :: es) X.env = (false, eval e X.env) :: starEach es X.env) (hpl : (backTo pos (starEach es X.env)).any (·.1) = false)
    (ht : ∃ pl : Sem Bool, eval (.Call (.Attribute o m apos) (e :: es) [] pos) X.env = (do
      let ov ← eval o X.env
      standAt apos.atName
      let (f, first) ← holding [ov] (getMethod ov m pl)
      callWith pos f first (backTo pos (starEach (e :: es) X.env)) (backToKw pos (keywordEach [] X.env))))
    (h : ke X H0 M o σ L fun y L1 => y = .ref C ∧ ka X H0 M (e :: es) σ L1 fun vs L2 => rs H0 M sp EE (.ref C :: vs) L2 Q) :
    ke X H0 M (.Call (.Attribute o m apos) (e :: es) [] pos) σ L Q := fun H z pins s I => by
  obtain ⟨_, ht⟩ := ht
  obtain ⟨f, fd, ps, q0, mc, F, r, cm, hb⟩ := D.ex
  rw [← bd.prog, ← bd.w, ← bd.K, ← bd.mg, ← bd.base] at F
  rw [← bd.K] at r cm hb
  have hr := bd.rm (Nat.le_of_ble_eq_true hj)
  refine PySem.W.methodCall_KW (thn (h H z pins s I) fun u s1 ⟨y, H1, I1, ry, L1, z1, ey, q⟩ => ?_) ht
  subst ey
  obtain rfl : u = Value.ref C := ry
  refine ClX.getmethcm_ok I1 r cm fun s2 I2 => ?_
  refine ClX.callwith_cm I2 (ClX.base_none I1 (Nat.le_refl _)) cm.fi (thn (q H1 z1 pos _ s2 I2) fun us s3 ⟨vs, H2, I3, rv, L2, z2, q2⟩ => ⟨⟨ClX.pin_at I3, I3.kIn⟩, ?_⟩) he hpl
  have q3 := q2 H2 z2
  rw [← List.append_nil (V.ref C :: vs)] at q3
  have key : wpAny (model X.prog X.w) X.A (PySem.call (Value.ref s1.heap.objs.size) us) (EP X ((s1.heap.objs.size, PySem.W.methodObj (.ref f) (.ref C)) :: pins) σ (up H0 M Q)) X.xe s3 := by
    refine wpAny_call (PySem.W.method_call (ClX.pin_at I3) (codeAny_mono (fk_code (us := .ref C :: us) (vs := V.ref C :: vs) F hr bd.gd hb .nil px0 I3 (.cons rfl rv) q3) fun res s4 hq => ?_))
    rcases res with er | fl
    · exact hq
    · cases fl with
      | ret u => exact hq
      | next => exact hq.elim
      | brk => exact hq.elim
      | cont => exact hq.elim
  exact thn key fun _ _ y => ClX.unpinE y
theorem special_K {prog : Program} {w : World} {A : Around} {E : Value → Shared → Prop} {s : Shared} {K : PySem.W.Frag} {x C f : Addr} {ox : Obj} {od : Option Obj} {name : Str} {args : List Value} {Q : Option Value → Shared → Prop} (X : K.In s.heap) (I : PySem.W.InstAt s.heap x ox C od) (hs : PySem.W.findIn K (.ref C) name = some (some (.ref f))) (hf : PySem.W.isFn K (.ref f) = true)
    (h : wpAny (model prog w) A (call (.ref f) (.ref x :: args)) (fun v => Q (some v)) E s) : wpAny (model prog w) A (callSpecial? (.ref x) name args) Q E s := by
  unfold callSpecial?
  refine wpAny_bind ?_
  unfold specialOf
  refine wpAny_bind (I.type.here ((PySem.W.looks_findIn X hs).here ?_))
  have fin : wpAny (model prog w) A (call (.ref f) ([.ref x] ++ args) >>= fun v => pure (some v)) Q E s := wpAny_bind (wpAny_mono h (fun v s' h' => wpAny_pure h') fun _ _ h' => h')
  first
    | exact wpAny_holding (wpAny_bind ((PySem.W.bind_fn X _ (beq_iff_eq.mp hf)).here (by exact fin)))
    | exact wpAny_holding (wpAny_bind ((PySem.W.bind_fn X _ (beq_iff_eq.mp hf)).here (wpAny_pure (by exact fin))))
/-- len(o), o of the family -/
theorem Body.lenO {a dx : Addr} {fs : List (Str × V)} {n : Nat} (bd : Body X P w K mg base k N Nv sc) (D : LenT P w K mg base j Cs sp) (hj : Nat.ble (j + 1) k = true) (ia : At L a (.ins C dx fs)) (cC : Cs C) (hn : n ≤ 1000)
    (h : rs H0 M sp EE [.ref a] L fun v L1 => v = .int n ∧ Q (.int n) L1) : rc X H0 M (.builtin "len") [.ref a] L Q := fun H z pins s σ us I rv => by
  obtain ⟨f, fd, ps, F, hf, hb⟩ := D.ex
  rw [← bd.prog, ← bd.w, ← bd.K, ← bd.mg, ← bd.base] at F
  rw [← bd.K] at hf hb
  obtain ⟨f1, f2⟩ := hf C cC
  have hr : Room (j + 1) X.A := bd.rm (Nat.le_of_ble_eq_true hj)
  obtain ⟨u, rfl, ru⟩ : ∃ u, us = [u] ∧ RelV (V.ref a) u := by
    cases rv with
    | cons ru rn => cases rn with
      | nil => exact ⟨_, rfl, ru⟩
  obtain rfl : u = Value.ref a := ru
  obtain ⟨ox, od, J, hd⟩ := insC_at I (.inr ⟨dx, fs, z.get ia⟩)
  refine Calls.call_function_entry kind_len plain_len entry_len (args_len1 _) ?_
  unfold Builtin.«len»
  refine wpAny_bind (m := oneArg "len" _) (wpAny_pure ?_)
  have q := h H z
  have ll : ([Value.ref a] ++ []).length = ps.length := F.len _ _ _ _ q
  have bb := hb s [.ref a] I.kIn ll
  rw [List.append_nil] at bb
  refine wpAny_bind (m := callSpecial? (.ref a) (Str.ofString "__len__")) (special_K I.kIn J f1 f2 (wpAny_call (codeAny_mono (F.go X.A.in1 X.stack s H ⟨[.ref a], []⟩ [.ref a] [.ref a] _ EE hr.in1 bd.gd I.env0.in1 bb (.cons rfl .nil) q) fun res s2 hq => ?_)))
  rcases res with er | fl
  · exact (px0 (X := X) (E := EE) pins σ H s er s2 I hq)
  · cases fl with
    | ret u =>
      obtain ⟨v, H', I3, rv, L3, z3, ev, q3⟩ := I.after hq
      subst ev
      obtain ⟨tk, rfl⟩ := rv
      refine wpAny_bind (wpAny_holding (wpAny_pure ?_))
      refine wpAny_bind (wpAny_letGo ?_)
      show wpAny _ _ (if (n : Int) < 0 then _ else _) _ _ _
      rw [if_neg (by omega)]
      show wpAny _ _ (if (n : Int) ≥ 2 ^ 63 then _ else _) _ _ _
      rw [if_neg (by omega)]
      exact wpAny_bind (wpAny_mkInt (wpAny_pure ⟨_, rfl, .int n, H', I3.tok _, ⟨_, rfl⟩, L3, z3, q3⟩))
    | next => exact hq.elim
    | brk => exact hq.elim
    | cont => exact hq.elim
end
/-! ### tuples put together -/
section
variable {X : Cx} {H0 : Hp} {M : Addr → Prop} {L : LL} {Q : V → LL → Prop} {p q : Addr} {xs ys : List V}
theorem ro_catT (ia : At L p (.tup xs)) (ib : At L q (.tup ys)) (ne : xs ≠ []) (ne2 : ys ≠ []) (hl : xs.length + ys.length ≤ 1000) (k : New H0 (.tup (xs ++ ys)) L Q) : ro X H0 M (binaryOp .Add) (.ref p) (.ref q) L Q :=
  ro_of op_catT fun H z => ⟨p, q, xs, ys, rfl, rfl, z.st ia, z.st ib, ne, Nat.le_trans hl (by decide), fun e => absurd e ne2, fun _ => new_up z k⟩
end
/-! ### sequences whose items are told one by one -/
abbrev sqO : Bool → List V → HO
  | true, xs => .tup xs
  | false, xs => .lst xs
def Alls {α : Type} (h : α → Addr × HO) (L : LL) (xs : List α) : Prop := ∀ x ∈ xs, At L (h x).1 (h x).2
inductive F2 {α β : Type} (T : α → β → Prop) : List α → List β → Prop where
  | nil : F2 T [] []
  | cons {x : α} {y : β} {xs : List α} {ys : List β} (h : T x y) (t : F2 T xs ys) : F2 T (x :: xs) (y :: ys)
section
variable {α β : Type} {T : α → β → Prop} {xs : List α} {ys : List β} {x : α} {y : β}
theorem F2.snoc (h : F2 T xs ys) (k : T x y) : F2 T (xs ++ [x]) (ys ++ [y]) := by
  induction h with
  | nil => exact .cons k .nil
  | cons a _ ih => exact .cons a ih
theorem F2.len (h : F2 T xs ys) : xs.length = ys.length := by
  induction h with
  | nil => rfl
  | cons a _ ih => rw [List.length_cons, List.length_cons, ih]
theorem F2.left (h : F2 T xs ys) : ∀ x ∈ xs, ∃ y ∈ ys, T x y := by
  induction h with
  | nil => intro x hx; cases hx
  | cons a _ ih =>
    intro x hx
    rcases List.mem_cons.mp hx with e | hx
    · rw [e]; exact ⟨_, List.mem_cons_self, a⟩
    · obtain ⟨y, hy, t⟩ := ih x hx; exact ⟨y, List.mem_cons_of_mem _ hy, t⟩
theorem F2.right (h : F2 T xs ys) : ∀ y ∈ ys, ∃ x ∈ xs, T x y := by
  induction h with
  | nil => intro x hx; cases hx
  | cons a _ ih =>
    intro x hx
    rcases List.mem_cons.mp hx with e | hx
    · rw [e]; exact ⟨_, List.mem_cons_self, a⟩
    · obtain ⟨y, hy, t⟩ := ih x hx; exact ⟨y, List.mem_cons_of_mem _ hy, t⟩
theorem F2.map {γ : Type} {f : α → γ} {g : β → γ} (h : F2 T xs ys) (k : ∀ x y, T x y → f x = g y) : xs.map f = ys.map g := by
  induction h with
  | nil => rfl
  | cons a _ ih => rw [List.map_cons, List.map_cons, k _ _ a, ih]
theorem F2.imp {T' : α → β → Prop} (h : F2 T xs ys) (k : ∀ x y, T x y → T' x y) : F2 T' xs ys := by
  induction h with
  | nil => exact .nil
  | cons a _ ih => exact .cons (k _ _ a) ih
theorem F2.app {xs' : List α} {ys' : List β} (h : F2 T xs ys) (k : F2 T xs' ys') : F2 T (xs ++ xs') (ys ++ ys') := by
  induction h with
  | nil => exact k
  | cons a _ ih => exact .cons a ih
theorem F2.get (h : F2 T xs ys) : ∀ {i : Nat} {x : α}, xs[i]? = some x → ∃ y, ys[i]? = some y ∧ T x y := by
  induction h with
  | nil => intro i x h; cases h
  | cons a _ ih =>
    intro i x h
    cases i with
    | zero => cases h; exact ⟨_, rfl, a⟩
    | succ i => exact ih h
theorem F2.drop (h : F2 T xs ys) : ∀ n : Nat, F2 T (xs.drop n) (ys.drop n) := by
  induction h with
  | nil => intro n; rw [List.drop_nil, List.drop_nil]; exact .nil
  | cons a t ih =>
    intro n
    cases n with
    | zero => exact .cons a t
    | succ n => exact ih n
theorem F2.take (h : F2 T xs ys) : ∀ n : Nat, F2 T (xs.take n) (ys.take n) := by
  induction h with
  | nil => intro n; rw [List.take_nil, List.take_nil]; exact .nil
  | cons a t ih =>
    intro n
    cases n with
    | zero => exact .nil
    | succ n => exact .cons a (ih n)
theorem F2.rev (h : F2 T xs ys) : F2 T xs.reverse ys.reverse := by
  induction h with
  | nil => exact .nil
  | cons a _ ih => rw [List.reverse_cons, List.reverse_cons]; exact ih.snoc a
end
section
variable {α : Type} {h : α → Addr × HO} {L L' : LL} {xs ys : List α} {q : Addr × HO} {o : HO} {a : Addr}
theorem At.app_l (ia : At L a o) : At (L ++ L') a o := .of_mem (List.mem_append_left _ ia.mem)
theorem At.app_r (ia : At L' a o) : At (L ++ L') a o := .of_mem (List.mem_append_right _ ia.mem)
theorem Alls.there (k : Alls h L xs) : Alls h (q :: L) xs := fun x hx => .there (k x hx)
theorem Alls.app_l (k : Alls h L xs) : Alls h (L ++ L') xs := fun x hx => .app_l (k x hx)
theorem Alls.app_r (k : Alls h L' xs) : Alls h (L ++ L') xs := fun x hx => .app_r (k x hx)
theorem Alls.self : Alls h (xs.map h) xs := fun x hx => .of_mem (List.mem_map.mpr ⟨x, hx, rfl⟩)
theorem Alls.sub (k : Alls h L xs) (s : ∀ y ∈ ys, y ∈ xs) : Alls h L ys := fun x hx => k x (s x hx)
theorem Alls.two (k : Alls h L xs) (k2 : Alls h L ys) : Alls h L (xs ++ ys) := fun x hx => (List.mem_append.mp hx).elim (k x) (k2 x)
theorem Alls.cons {x : α} (k : At L (h x).1 (h x).2) (k2 : Alls h L xs) : Alls h L (x :: xs) := fun y hy => by
  rcases List.mem_cons.mp hy with e | e
  · rw [e]; exact k
  · exact k2 y e
theorem Alls.nil : Alls h L [] := fun y hy => nomatch hy
theorem Alls.get {H0 H : Hp} {M : Addr → Prop} (k : Alls h L xs) (z : Hs H0 M L H) : ∀ x ∈ xs, H (h x).1 = some (h x).2 := fun x hx => z.get (k x hx)
end
theorem Hs.newsS {H0 H : Hp} {M : Addr → Prop} {L N : LL} (z : Hs H0 M L H) (s : Sub N L) (f : ∀ q ∈ N, H0 q.1 = none) : News H0 H N := by
  have z2 := z.sub s
  refine ⟨?_, f, fun q hq => z2.at_ q hq⟩
  refine List.Pairwise.imp_of_mem (fun {a b} ha hb w => ?_) z2.nd
  obtain ⟨q, hq, rfl⟩ := List.mem_map.mp ha
  exact w.elim id fun w => absurd (f q hq) w.1
theorem Hs.perm {H0 H : Hp} {M : Addr → Prop} {L L' : LL} (h : Hs H0 M L H) (s : L'.Perm L) : Hs H0 M L' H := by
  refine ⟨?_, fun q hq => h.at_ q (s.mem_iff.mp hq), h.fr, h.md⟩
  refine (s.map (·.1)).symm.pairwise h.nd fun {x y} w => ?_
  rcases w with w | w
  · exact .inl (Ne.symm w)
  · by_cases e : y = x
    · exact .inr (by rw [e]; exact w)
    · exact .inl e
section
variable {X : Cx} {tg iter : Expr} {H0 : Hp} {M : Addr → Prop} {L : LL} {σ : L2.St}
theorem kb_perm {L' : LL} {ss : List Stmt} {nx : L2.St → LL → Prop} {rt : V → LL → Prop} {bk ct : L2.St → LL → Prop} (s : L'.Perm L) (h : kb X H0 M ss nx rt bk ct σ L') : kb X H0 M ss nx rt bk ct σ L := fun H z => h H (z.perm s)
/-- what is no longer used is forgotten -/
theorem ke_forget {L' : LL} {e : Expr} {Q : V → LL → Prop} (s : Sub L' L) (h : ke X H0 M e σ L' Q) : ke X H0 M e σ L Q := fun H z => h H (z.sub s)
theorem ki_seq (tp : Bool) {P : It → LL → Prop} (h : ke X H0 M iter σ L fun v L1 => ∃ a xs, v = .ref a ∧ At L1 a (sqO tp xs) ∧ ∀ J, Walks H0 M xs.length (fun L => At L a (sqO tp xs)) (fun i L x L' => L' = L ∧ xs[i]? = some x) J → P J L1) : ki X H0 M tg iter σ L P := by
  cases tp
  · exact ki_list h
  · exact ki_tup h
end
section
variable {α β : Type} {X : Cx} {elt tg iter : Expr} {ifs : List Expr} {scope : Scope} {pos : Pos} {H0 : Hp} {M : Addr → Prop} {L : LL} {σ : L2.St} {Q : V → LL → Prop} {P : Program} {w : World} {K : PySem.W.Frag} {mg : Str → Option Value} {base : Heap} {k : Nat} {N Nv Nw : List Str} {sc : Scope}
/-- [f(x) for x in xs if p(x)], any items; what is made besides is forgotten -/
theorem Body.klV (tp : Bool) (g : α → V) (bd : Body X P w K mg base k N Nv sc) (ns : Ns X N Nw) (own : List (Str × Nat)) (Nb No : List Str) (p : α → Bool) (f : α → V) (vis : ∀ x ∈ Nb, (relS scope sc).names.lookup x = some .local ∨ (relS scope sc).names.lookup x = some .cell ∨ (relS scope sc).names.lookup x = some .free) (pl : ∀ x ∈ Nb, (x == ("__debug__" : Str)) = false ∧ (x == ("__classdict__" : Str)) = false) (lc : ∀ x ∈ No, (relS scope sc).names.lookup x = some .local)
    (h : ke X H0 M iter σ L fun v L1 => ∃ (a : Addr) (is : List α), v = .ref a ∧ At L1 a (sqO tp (is.map g)) ∧ is.length ≤ 1000 ∧
      (∀ x ∈ is, ∀ D acc, H0 D = none → ∀ B, Body B P w K mg base k N Nb (relS scope sc) → Ns B N No → kg B H0 M tg (g x) (wipe σ (own.map (·.2))) ((D, acc) :: L1) fun σ2 L2 => Sub ((D, acc) :: L1) L2 ∧ wipe σ2 (own.map (·.2)) = wipe σ (own.map (·.2)) ∧
        ∀ B, Body B P w K mg base k N Nb (relS scope sc) → kf B H0 M ifs σ2 L2 fun b L3 => Sub ((D, acc) :: L1) L3 ∧ b = p x ∧ (b = true → ∀ B, Body B P w K mg base k N Nb (relS scope sc) → ke B H0 M elt σ2 L3 fun y L4 => y = f x ∧ Sub ((D, acc) :: L1) L4)) ∧
      ∀ D, H0 D = none → Q (.ref D) ((D, .lst ((is.filter p).map f)) :: L1)) :
    kLc X H0 M elt tg iter ifs scope own σ L Q := by
  refine Body.kl bd ns own Nb No vis pl lc (ki_seq tp fun H z => we_mono (h H z) fun v H1 ⟨L1, z1, a, is, ev, ia, hl, st, en⟩ => ⟨L1, z1, a, _, ev, ia, fun J wk D nD => ?_⟩)
  refine ⟨_, _, _, fun i L => L = (D, .lst (((is.take i).filter p).map f)) :: L1, wk, rfl, fun i L hi e => by rw [e]; exact .there ia, fun i x L L' hi e hx B bB nB => ?_, fun L e => ?_⟩
  · obtain ⟨e2, hx⟩ := hx
    subst e2
    subst e
    rw [List.getElem?_map] at hx
    obtain ⟨y, hy, rfl⟩ := Option.map_eq_some_iff.mp hx
    have hm := List.mem_of_getElem? hy
    have key := st y hm D (.lst (((is.take i).filter p).map f)) nD B bB nB
    refine fun H z pins s u I r => thn (key H z pins s u I r) fun _ s' ⟨σ', H', I', L2, z2, e3, e4, q⟩ => ⟨σ', H', I', L2, z2, e4, fun B2 bB2 => kf_mono (q B2 bB2) fun b L3 ⟨e5, e6, q2⟩ => ?_⟩
    cases b with
    | true =>
      rw [if_pos rfl]
      intro B3 bB3
      refine fun H z => we_mono (q2 rfl B3 bB3 H z) fun y2 H2 w => ?_
      obtain ⟨L4, z4, e7, e8⟩ := w
      subst e7
      refine ⟨_, z4.sub e8, _, _, .here, ?_, _, .refl _, ?_⟩
      · rw [List.length_map]
        refine Nat.lt_of_le_of_lt (Nat.le_trans (List.length_filter_le _ _) (by rw [List.length_take]; exact Nat.min_le_right _ _)) (Nat.lt_of_le_of_lt hl (by decide))
      · dsimp only
        rw [take_snoc hy, List.filter_append, List.filter_cons, if_pos e6.symm, List.filter_nil, List.map_append]
        rfl
    | false =>
      rw [if_neg (by decide)]
      refine ⟨_, e5, ?_⟩
      dsimp only
      rw [take_snoc hy, List.filter_append, List.filter_cons, if_neg (by rw [← e6]; decide), List.filter_nil, List.append_nil]
  · subst e
    have := en D nD
    rw [List.length_map, List.take_length]
    exact this
/-- [made(x) for x in xs]: each item a new thing h y, of which T x y; beside it S stays -/
theorem Body.klM (tp : Bool) (g : α → V) (v : β → V) (h : β → Addr × HO) (T : α → β → Prop) (bd : Body X P w K mg base k N Nv sc) (ns : Ns X N Nw) (own : List (Str × Nat)) (Nb No : List Str) (vis : ∀ x ∈ Nb, (relS scope sc).names.lookup x = some .local ∨ (relS scope sc).names.lookup x = some .cell ∨ (relS scope sc).names.lookup x = some .free) (pl : ∀ x ∈ Nb, (x == ("__debug__" : Str)) = false ∧ (x == ("__classdict__" : Str)) = false) (lc : ∀ x ∈ No, (relS scope sc).names.lookup x = some .local)
    (hk : ke X H0 M iter σ L fun w1 L1 => ∃ (a : Addr) (is : List α) (S : LL → Prop), w1 = .ref a ∧ S L1 ∧ (∀ L2, S L2 → At L2 a (sqO tp (is.map g))) ∧ is.length ≤ 1000 ∧
      (∀ x ∈ is, ∀ D acc L2, H0 D = none → S L2 → ∀ (ch : LL), ∀ B, Body B P w K mg base k N Nb (relS scope sc) → Ns B N No → kg B H0 M tg (g x) (wipe σ (own.map (·.2))) ((D, acc) :: (L2 ++ ch)) fun σ2 L3 => wipe σ2 (own.map (·.2)) = wipe σ (own.map (·.2)) ∧
        ∀ B, Body B P w K mg base k N Nb (relS scope sc) → ke B H0 M elt σ2 L3 fun y L4 => ∃ (b : β) (L5 L6 : LL), y = v b ∧ T x b ∧ H0 (h b).1 = none ∧ S L5 ∧ Sub L6 L4 ∧ L6.Perm (h b :: (D, acc) :: (L5 ++ ch))) ∧
      ∀ D L2 (ys : List β), H0 D = none → S L2 → F2 T is ys → (∀ y ∈ ys, H0 (h y).1 = none) → Q (.ref D) ((D, .lst (ys.map v)) :: (L2 ++ ys.map h))) :
    kLc X H0 M elt tg iter [] scope own σ L Q := by
  refine Body.kl bd ns own Nb No vis pl lc (ki_seq tp fun H z => we_mono (hk H z) fun w1 H1 ⟨L1, z1, a, is, S, ev, s1, ia, hl, st, en⟩ => ⟨L1, z1, a, _, ev, ia _ s1, fun J wk D nD => ?_⟩)
  refine ⟨_, _, _, fun i L => ∃ (ys : List β) (L2 : LL), S L2 ∧ F2 T (is.take i) ys ∧ (∀ y ∈ ys, H0 (h y).1 = none) ∧ L = (D, .lst (ys.map v)) :: (L2 ++ ys.map h), wk, ⟨[], L1, s1, .nil, (fun y hy => nomatch hy), by rw [List.map_nil, List.map_nil, List.append_nil]⟩, fun i L hi ⟨ys, L2, s2, _, _, e⟩ => by rw [e]; exact .there (.app_l (ia _ s2)), fun i x L L' hi ⟨ys, L2, s2, f2, nf, e⟩ hx B bB nB => ?_, fun L ⟨ys, L2, s2, f2, nf, e⟩ => ?_⟩
  · obtain ⟨e2, hx⟩ := hx
    subst e2
    subst e
    rw [List.getElem?_map] at hx
    obtain ⟨y, hy, rfl⟩ := Option.map_eq_some_iff.mp hx
    have hm := List.mem_of_getElem? hy
    have key := st y hm D (.lst (ys.map v)) L2 nD s2 (ys.map h) B bB nB
    refine fun H z pins s u I r => thn (key H z pins s u I r) fun _ s' ⟨σ', H', I', L3, z3, e4, q⟩ => ⟨σ', H', I', L3, z3, e4, fun B2 bB2 => ?_⟩
    show kf _ _ _ [] _ _ _
    refine kf_nil ?_
    rw [if_pos rfl]
    intro B3 bB3
    refine fun H z => we_mono (q B3 bB3 H z) fun y2 H2 w => ?_
    obtain ⟨L4, z4, b, L5, L6, e7, tb, nb, s5, sb, pm⟩ := w
    subst e7
    refine ⟨_, (z4.sub sb).perm (L' := (D, .lst (ys.map v)) :: (L5 ++ ys.map h ++ [h b])) ?_, _, _, .here, ?_, _, .refl _, ?_⟩
    · refine List.Perm.trans ?_ pm.symm
      refine List.Perm.trans ?_ (List.Perm.swap _ _ _)
      exact List.Perm.cons _ (List.perm_append_comm (l₂ := [h b]))
    · rw [List.length_map, ← f2.len, List.length_take]
      exact Nat.lt_of_le_of_lt (Nat.le_trans (Nat.min_le_right _ _) hl) (by decide)
    · refine ⟨ys ++ [b], L5, s5, ?_, ?_, ?_⟩
      · rw [take_snoc hy]; exact f2.snoc tb
      · intro y' hy'
        rcases List.mem_append.mp hy' with e | e
        · exact nf y' e
        · rw [List.mem_singleton.mp e]; exact nb
      · rw [List.map_append, List.map_append, List.append_assoc]
        rfl
  · subst e
    rw [List.length_map, List.take_length] at f2
    exact en D L2 ys nD s2 f2 nf
/-- [made() for i in range(n)]: each turn a new thing h y, of which T y; beside it S stays -/
theorem Body.klMR {a : Expr} {p pos : Pos} (v : β → V) (h : β → Addr × HO) (T : β → Prop) (bd : Body X P w K mg base k N Nv sc) (ns : Ns X N Nw) (own : List (Str × Nat)) (Nb No : List Str) (vis : ∀ x ∈ Nb, (relS scope sc).names.lookup x = some .local ∨ (relS scope sc).names.lookup x = some .cell ∨ (relS scope sc).names.lookup x = some .free) (pl : ∀ x ∈ Nb, (x == ("__debug__" : Str)) = false ∧ (x == ("__classdict__" : Str)) = false) (lc : ∀ x ∈ No, (relS scope sc).names.lookup x = some .local)
    (hg : Gl X "range") (hm : X.mg "range" = none) (hse : starEach [a] X.env = [(false, eval a X.env)])
    (hk : ke X H0 M a σ L fun w1 L1 => ∃ (n : Int) (S : LL → Prop), w1 = .int n ∧ S L1 ∧ n ≤ 1000 ∧ 0 ≤ n ∧
      (∀ (i : Nat) D acc L2, (i : Int) < n → H0 D = none → S L2 → ∀ (ch : LL), ∀ B, Body B P w K mg base k N Nb (relS scope sc) → Ns B N No → kg B H0 M tg (.int i) (wipe σ (own.map (·.2))) ((D, acc) :: (L2 ++ ch)) fun σ2 L3 => wipe σ2 (own.map (·.2)) = wipe σ (own.map (·.2)) ∧
        ∀ B, Body B P w K mg base k N Nb (relS scope sc) → ke B H0 M elt σ2 L3 fun y L4 => ∃ (b : β) (L5 L6 : LL), y = v b ∧ T b ∧ H0 (h b).1 = none ∧ S L5 ∧ Sub L6 L4 ∧ L6.Perm (h b :: (D, acc) :: (L5 ++ ch))) ∧
      ∀ D L2 (ys : List β), H0 D = none → S L2 → ys.length = n.toNat → (∀ y ∈ ys, T y ∧ H0 (h y).1 = none) → Q (.ref D) ((D, .lst (ys.map v)) :: (L2 ++ ys.map h))) :
    kLc X H0 M elt tg (.Call (.Name "range" p) [a] [] pos) [] scope own σ L Q := by
  refine Body.kl bd ns own Nb No vis pl lc (ki_range1 hg hm hse fun H z => we_mono (hk H z) fun w1 H1 ⟨L1, z1, n, S, ev, s1, hl, hn, st, en⟩ => ⟨L1, z1, n, ev, by omega, by omega, fun J wk D nD => ?_⟩)
  refine ⟨_, _, _, fun i L => ∃ (ys : List β) (L2 : LL), S L2 ∧ ys.length = i ∧ (∀ y ∈ ys, T y ∧ H0 (h y).1 = none) ∧ L = (D, .lst (ys.map v)) :: (L2 ++ ys.map h), wk, ⟨[], L1, s1, rfl, (fun y hy => nomatch hy), by rw [List.map_nil, List.map_nil, List.append_nil]⟩, fun _ _ _ _ => trivial, fun i x L L' hi ⟨ys, L2, s2, f2, nf, e⟩ hx B bB nB => ?_, fun L ⟨ys, L2, s2, f2, nf, e⟩ => ?_⟩
  · obtain ⟨e2, hx⟩ := hx
    subst e2
    subst e
    subst hx
    have key := st i D (.lst (ys.map v)) L2 (by omega) nD s2 (ys.map h) B bB nB
    refine fun H z pins s u I r => thn (key H z pins s u I r) fun _ s' ⟨σ', H', I', L3, z3, e4, q⟩ => ⟨σ', H', I', L3, z3, e4, fun B2 bB2 => ?_⟩
    show kf _ _ _ [] _ _ _
    refine kf_nil ?_
    rw [if_pos rfl]
    intro B3 bB3
    refine fun H z => we_mono (q B3 bB3 H z) fun y2 H2 w => ?_
    obtain ⟨L4, z4, b, L5, L6, e7, tb, nb, s5, sb, pm⟩ := w
    subst e7
    refine ⟨_, (z4.sub sb).perm (L' := (D, .lst (ys.map v)) :: (L5 ++ ys.map h ++ [h b])) ?_, _, _, .here, ?_, _, .refl _, ?_⟩
    · refine List.Perm.trans ?_ pm.symm
      refine List.Perm.trans ?_ (List.Perm.swap _ _ _)
      exact List.Perm.cons _ (List.perm_append_comm (l₂ := [h b]))
    · rw [List.length_map, f2]
      exact Nat.lt_of_le_of_lt (show i ≤ 1000 by omega) (by decide)
    · refine ⟨ys ++ [b], L5, s5, ?_, ?_, ?_⟩
      · rw [List.length_append, f2]; rfl
      · intro y' hy'
        rcases List.mem_append.mp hy' with e | e
        · exact nf y' e
        · rw [List.mem_singleton.mp e]; exact ⟨tb, nb⟩
      · rw [List.map_append, List.map_append, List.append_assoc]
        rfl
  · subst e
    exact en D L2 ys nD s2 f2 nf
theorem Body.lcMR {a : Expr} {p pos pos2 : Pos} (v : β → V) (h : β → Addr × HO) (T : β → Prop) (bd : Body X P w K mg base k N Nv sc) (ns : Ns X N Nw) (own : List (Str × Nat)) (Nb No : List Str) (ok : BlkOk N sc scope own) (vis : ∀ x ∈ Nb, (relS scope sc).names.lookup x = some .local ∨ (relS scope sc).names.lookup x = some .cell ∨ (relS scope sc).names.lookup x = some .free) (pl : ∀ x ∈ Nb, (x == ("__debug__" : Str)) = false ∧ (x == ("__classdict__" : Str)) = false) (lc : ∀ x ∈ No, (relS scope sc).names.lookup x = some .local)
    (hg : Gl X "range") (hm : X.mg "range" = none) (hse : starEach [a] X.env = [(false, eval a X.env)]) (hs : ∀ x, foldedSetIterable (.Call (.Name "range" p) [a] [] pos) X.env x = pure x)
    (hk : ke X H0 M a σ L fun w1 L1 => ∃ (n : Int) (S : LL → Prop), w1 = .int n ∧ S L1 ∧ n ≤ 1000 ∧ 0 ≤ n ∧
      (∀ (i : Nat) D acc L2, (i : Int) < n → H0 D = none → S L2 → ∀ (ch : LL), ∀ B, Body B P w K mg base k N Nb (relS scope sc) → Ns B N No → kg B H0 M tg (.int i) (wipe σ (own.map (·.2))) ((D, acc) :: (L2 ++ ch)) fun σ2 L3 => wipe σ2 (own.map (·.2)) = wipe σ (own.map (·.2)) ∧
        ∀ B, Body B P w K mg base k N Nb (relS scope sc) → ke B H0 M elt σ2 L3 fun y L4 => ∃ (b : β) (L5 L6 : LL), y = v b ∧ T b ∧ H0 (h b).1 = none ∧ S L5 ∧ Sub L6 L4 ∧ L6.Perm (h b :: (D, acc) :: (L5 ++ ch))) ∧
      ∀ D L2 (ys : List β), H0 D = none → S L2 → ys.length = n.toNat → (∀ y ∈ ys, T y ∧ H0 (h y).1 = none) → Q (.ref D) ((D, .lst (ys.map v)) :: (L2 ++ ys.map h))) :
    ke X H0 M (.ListComp elt [⟨tg, .Call (.Name "range" p) [a] [] pos, [], 0⟩] scope pos2) σ L Q :=
  ke_kl bd.calm (by rw [ns.eq]; exact ns.nd) (by rw [ns.eq, bd.scope]; exact ok) hs (Body.klMR v h T bd ns own Nb No vis pl lc hg hm hse hk)
/-- [f(x) for x in xs] as a value -/
theorem Body.klF (tp : Bool) (g : α → V) (bd : Body X P w K mg base k N Nv sc) (ns : Ns X N Nw) (own : List (Str × Nat)) (Nb No : List Str) (f : α → V) (vis : ∀ x ∈ Nb, (relS scope sc).names.lookup x = some .local ∨ (relS scope sc).names.lookup x = some .cell ∨ (relS scope sc).names.lookup x = some .free) (pl : ∀ x ∈ Nb, (x == ("__debug__" : Str)) = false ∧ (x == ("__classdict__" : Str)) = false) (lc : ∀ x ∈ No, (relS scope sc).names.lookup x = some .local)
    (h : ke X H0 M iter σ L fun v L1 => ∃ (a : Addr) (is : List α), v = .ref a ∧ At L1 a (sqO tp (is.map g)) ∧ is.length ≤ 1000 ∧
      (∀ x ∈ is, ∀ D acc, H0 D = none → ∀ B, Body B P w K mg base k N Nb (relS scope sc) → Ns B N No → kg B H0 M tg (g x) (wipe σ (own.map (·.2))) ((D, acc) :: L1) fun σ2 L2 => wipe σ2 (own.map (·.2)) = wipe σ (own.map (·.2)) ∧
        ∀ B, Body B P w K mg base k N Nb (relS scope sc) → ke B H0 M elt σ2 L2 fun y L4 => y = f x ∧ Sub ((D, acc) :: L1) L4) ∧
      ∀ D, H0 D = none → Q (.ref D) ((D, .lst (is.map f)) :: L1)) :
    kLc X H0 M elt tg iter [] scope own σ L Q := by
  refine Body.kl bd ns own Nb No vis pl lc (ki_seq tp fun H z => we_mono (h H z) fun v H1 ⟨L1, z1, a, is, ev, ia, hl, st, en⟩ => ⟨L1, z1, a, _, ev, ia, fun J wk D nD => ?_⟩)
  refine ⟨_, _, _, fun i L => L = (D, .lst ((is.take i).map f)) :: L1, wk, rfl, fun i L hi e => by rw [e]; exact .there ia, fun i x L L' hi e hx B bB nB => ?_, fun L e => ?_⟩
  · obtain ⟨e2, hx⟩ := hx
    subst e2
    subst e
    rw [List.getElem?_map] at hx
    obtain ⟨y, hy, rfl⟩ := Option.map_eq_some_iff.mp hx
    have hm := List.mem_of_getElem? hy
    have key := st y hm D (.lst ((is.take i).map f)) nD B bB nB
    refine fun H z pins s u I r => thn (key H z pins s u I r) fun _ s' ⟨σ', H', I', L2, z2, e4, q⟩ => ⟨σ', H', I', L2, z2, e4, fun B2 bB2 => ?_⟩
    show kf _ _ _ [] _ _ _
    refine kf_nil ?_
    rw [if_pos rfl]
    intro B3 bB3
    refine fun H z => we_mono (q B3 bB3 H z) fun y2 H2 w => ?_
    obtain ⟨L4, z4, e7, e8⟩ := w
    subst e7
    refine ⟨_, z4.sub e8, _, _, .here, ?_, _, .refl _, ?_⟩
    · rw [List.length_map, List.length_take]
      exact Nat.lt_of_le_of_lt (Nat.le_trans (Nat.min_le_right _ _) hl) (by decide)
    · dsimp only
      rw [take_snoc hy, List.map_append]
      rfl
  · subst e
    have := en D nD
    rw [List.length_map, List.take_length]
    exact this
theorem Body.lcF (tp : Bool) (g : α → V) (bd : Body X P w K mg base k N Nv sc) (ns : Ns X N Nw) (own : List (Str × Nat)) (Nb No : List Str) (f : α → V) (ok : BlkOk N sc scope own) (vis : ∀ x ∈ Nb, (relS scope sc).names.lookup x = some .local ∨ (relS scope sc).names.lookup x = some .cell ∨ (relS scope sc).names.lookup x = some .free) (pl : ∀ x ∈ Nb, (x == ("__debug__" : Str)) = false ∧ (x == ("__classdict__" : Str)) = false) (lc : ∀ x ∈ No, (relS scope sc).names.lookup x = some .local) (hs : ∀ x, foldedSetIterable iter X.env x = pure x)
    (h : ke X H0 M iter σ L fun v L1 => ∃ (a : Addr) (is : List α), v = .ref a ∧ At L1 a (sqO tp (is.map g)) ∧ is.length ≤ 1000 ∧
      (∀ x ∈ is, ∀ D acc, H0 D = none → ∀ B, Body B P w K mg base k N Nb (relS scope sc) → Ns B N No → kg B H0 M tg (g x) (wipe σ (own.map (·.2))) ((D, acc) :: L1) fun σ2 L2 => wipe σ2 (own.map (·.2)) = wipe σ (own.map (·.2)) ∧
        ∀ B, Body B P w K mg base k N Nb (relS scope sc) → ke B H0 M elt σ2 L2 fun y L4 => y = f x ∧ Sub ((D, acc) :: L1) L4) ∧
      ∀ D, H0 D = none → Q (.ref D) ((D, .lst (is.map f)) :: L1)) :
    ke X H0 M (.ListComp elt [⟨tg, iter, [], 0⟩] scope pos) σ L Q :=
  ke_kl bd.calm (by rw [ns.eq]; exact ns.nd) (by rw [ns.eq, bd.scope]; exact ok) hs (Body.klF tp g bd ns own Nb No f vis pl lc h)
theorem Body.lcM (tp : Bool) (g : α → V) (v : β → V) (h : β → Addr × HO) (T : α → β → Prop) (bd : Body X P w K mg base k N Nv sc) (ns : Ns X N Nw) (own : List (Str × Nat)) (Nb No : List Str) (ok : BlkOk N sc scope own) (vis : ∀ x ∈ Nb, (relS scope sc).names.lookup x = some .local ∨ (relS scope sc).names.lookup x = some .cell ∨ (relS scope sc).names.lookup x = some .free) (pl : ∀ x ∈ Nb, (x == ("__debug__" : Str)) = false ∧ (x == ("__classdict__" : Str)) = false) (lc : ∀ x ∈ No, (relS scope sc).names.lookup x = some .local) (hs : ∀ x, foldedSetIterable iter X.env x = pure x)
    (hk : ke X H0 M iter σ L fun w1 L1 => ∃ (a : Addr) (is : List α) (S : LL → Prop), w1 = .ref a ∧ S L1 ∧ (∀ L2, S L2 → At L2 a (sqO tp (is.map g))) ∧ is.length ≤ 1000 ∧
      (∀ x ∈ is, ∀ D acc L2, H0 D = none → S L2 → ∀ (ch : LL), ∀ B, Body B P w K mg base k N Nb (relS scope sc) → Ns B N No → kg B H0 M tg (g x) (wipe σ (own.map (·.2))) ((D, acc) :: (L2 ++ ch)) fun σ2 L3 => wipe σ2 (own.map (·.2)) = wipe σ (own.map (·.2)) ∧
        ∀ B, Body B P w K mg base k N Nb (relS scope sc) → ke B H0 M elt σ2 L3 fun y L4 => ∃ (b : β) (L5 L6 : LL), y = v b ∧ T x b ∧ H0 (h b).1 = none ∧ S L5 ∧ Sub L6 L4 ∧ L6.Perm (h b :: (D, acc) :: (L5 ++ ch))) ∧
      ∀ D L2 (ys : List β), H0 D = none → S L2 → F2 T is ys → (∀ y ∈ ys, H0 (h y).1 = none) → Q (.ref D) ((D, .lst (ys.map v)) :: (L2 ++ ys.map h))) :
    ke X H0 M (.ListComp elt [⟨tg, iter, [], 0⟩] scope pos) σ L Q :=
  ke_kl bd.calm (by rw [ns.eq]; exact ns.nd) (by rw [ns.eq, bd.scope]; exact ok) hs (Body.klM tp g v h T bd ns own Nb No vis pl lc hk)
end
/-! ### what the top has left -/
structure FunCM (K : PySem.W.Frag) (C : Addr) (m qual : Str) (st : Stmt) : Prop where
  ex : ∃ f fd p mc, Fun K m qual st f fd ∧ ClX.CRead K C mc ∧ ClX.CMet K C mc m p f
structure FunN (K : PySem.W.Frag) (Cs : Addr → Prop) (qual : Str) (st : Stmt) : Prop where
  ex : ∃ f fd, Fun K "__len__" qual st f fd ∧ ∀ C, Cs C → PySem.W.findIn K (.ref C) "__len__" = some (some (.ref f)) ∧ PySem.W.isFn K (.ref f) = true
section
variable {P : Program} {w : World} {K : PySem.W.Frag} {mg : Str → Option Value} {base : Heap} {k : Nat} {x m qual : Str} {st : Stmt} {sp : Sp} {ps : List Str} {Cs : Addr → Prop} {C : Addr}
theorem FunCM.ok (F : FunCM K C m qual st) (b : ∀ f fd, Fun K m qual st f fd → Binds K fd ps []) (h : ∀ f fd, Fun K m qual st f fd → Fk P w K mg base CX0 k f fd ps sp) : CMethT P w K mg base k C m sp := by
  obtain ⟨f, fd, p, mc, F, r, c⟩ := F.ex
  exact ⟨f, fd, ps, p, mc, h f fd F, r, c, b f fd F⟩
theorem FunN.ok (F : FunN K Cs qual st) (b : ∀ f fd, Fun K "__len__" qual st f fd → Binds K fd ps []) (h : ∀ f fd, Fun K "__len__" qual st f fd → Fk P w K mg base CX0 k f fd ps sp) : LenT P w K mg base k Cs sp := by
  obtain ⟨f, fd, F, c⟩ := F.ex
  exact ⟨f, fd, ps, h f fd F, c, b f fd F⟩
theorem FunI.okR (F : FunI K mg x C qual st) (h : ∀ f fd, Fun K "__init__" qual st f fd → FkR P w K mg base CX0 k f sp) : MakeR P w K mg base k C sp := by
  obtain ⟨f, fd, F, hm, mk⟩ := F.ex
  exact ⟨f, h f fd F, mk⟩
end
end Xi

/-! ## Num4 -/
/-! Lines one after another, as numbers. -/
namespace Xi
abbrev T3 := Int × Int × Int
structure LOk' (e t r : Int) : Prop where
  e1 : 0 < e
  t1 : 0 ≤ t
  t2 : t < e
  r1 : 0 ≤ r
abbrev T3.ok (x : T3) : Prop := LOk' x.1 x.2.1 x.2.2
abbrev T3.arr (x : T3) (p : Int) : Int := Xi.arr x.1 x.2.1 x.2.2 p
abbrev jnT (x y : T3) : T3 := (addE x.1 y.1, addT x.1 x.2.1 x.2.2 y.1 y.2.1, addR x.1 x.2.1 x.2.2 y.1 y.2.1 y.2.2)
def endT : List T3 → Int → Int
  | [], p => p
  | x :: r, p => endT r (x.arr p)
def joinF : T3 → List T3 → T3
  | a, [] => a
  | a, x :: r => joinF (jnT a x) r
abbrev joinT (ns : List T3) : T3 := joinF (1, 0, 0) ns
abbrev FitsT (ns : List T3) : Prop := ns.Pairwise fun x y => FitI x.1 y.1
theorem endT_app : ∀ (xs ys : List T3) (p : Int), endT (xs ++ ys) p = endT ys (endT xs p)
  | [], _, _ => rfl
  | x :: r, ys, p => endT_app r ys (x.arr p)
theorem joinF_app : ∀ (a : T3) (xs ys : List T3), joinF a (xs ++ ys) = joinF (joinF a xs) ys
  | _, [], _ => rfl
  | a, x :: r, ys => joinF_app (jnT a x) r ys
theorem FitI.sym {e f : Int} (h : FitI e f) : FitI f e := h.elim .inr .inl
theorem jn_ok {x y : T3} (a : x.ok) (b : y.ok) : (jnT x y).ok :=
  let ⟨p, q, r, s⟩ := add_rng (t := x.2.1) (r := x.2.2) (u := y.2.1) (s := y.2.2) a.e1 b.e1 a.t1 a.t2 a.r1 b.r1; ⟨p, q, r, s⟩
theorem jn_arr {x y : T3} (a : x.ok) (b : y.ok) (f : FitI x.1 y.1) (p : Int) : (jnT x y).arr p = y.arr (x.arr p) := add_arr a.e1 b.e1 f
theorem addE_or (e f : Int) : addE e f = e ∨ addE e f = f := by unfold addE; split <;> simp
theorem addE_ge (e f : Int) : e ≤ addE e f ∧ f ≤ addE e f := by unfold addE; split <;> omega
theorem jn_fit {x y : T3} {f : Int} (a : FitI x.1 f) (b : FitI y.1 f) : FitI (jnT x y).1 f := by
  show FitI (addE x.1 y.1) f
  rcases addE_or x.1 y.1 with e | e <;> rw [e] <;> assumption
/-- what is known of a sum -/
structure Joined (a : T3) (ns : List T3) (j : T3) : Prop where
  ok : j.ok
  arr : ∀ p, j.arr p = endT ns (a.arr p)
  mem : j.1 = a.1 ∨ ∃ x ∈ ns, j.1 = x.1
  ge : a.1 ≤ j.1 ∧ ∀ x ∈ ns, x.1 ≤ j.1
theorem joinF_ok : ∀ {ns : List T3} {a : T3}, a.ok → (∀ x ∈ ns, x.ok) → FitsT (a :: ns) → Joined a ns (joinF a ns)
  | [], a, h, _, _ => ⟨h, fun _ => rfl, .inl rfl, Int.le_refl _, fun _ z => nomatch z⟩
  | x :: r, a, h, ho, hf => by
    have hx := ho x List.mem_cons_self
    obtain ⟨f1, f2⟩ := List.pairwise_cons.mp hf
    obtain ⟨f3, f4⟩ := List.pairwise_cons.mp f2
    have ih := joinF_ok (ns := r) (a := jnT a x) (jn_ok h hx) (fun y hy => ho y (List.mem_cons_of_mem _ hy)) (List.pairwise_cons.mpr ⟨fun y hy => jn_fit (f1 y (List.mem_cons_of_mem _ hy)) (f3 y hy), f4⟩)
    obtain ⟨g1, g2⟩ := addE_ge a.1 x.1
    refine ⟨ih.ok, fun p => ?_, ?_, ?_, ?_⟩
    · rw [show joinF a (x :: r) = joinF (jnT a x) r from rfl, ih.arr, jn_arr h hx (f1 x List.mem_cons_self)]; rfl
    · show (joinF (jnT a x) r).1 = a.1 ∨ _
      rcases ih.mem with e | ⟨y, hy, e⟩
      · rcases addE_or a.1 x.1 with z | z
        · exact .inl (e.trans z)
        · exact .inr ⟨x, List.mem_cons_self, e.trans z⟩
      · exact .inr ⟨y, List.mem_cons_of_mem _ hy, e⟩
    · exact Int.le_trans g1 ih.ge.1
    · intro y hy
      rcases List.mem_cons.mp hy with e | hy
      · rw [e]; exact Int.le_trans g2 ih.ge.1
      · exact ih.ge.2 y hy
theorem one_ok : T3.ok (1, 0, 0) := ⟨by decide, by decide, by decide, by decide⟩
theorem one_arr (p : Int) : T3.arr (1, 0, 0) p = p := by show p + (0 - p) % 1 + 0 = p; rw [Int.emod_one]; omega
theorem fits_one {ns : List T3} (f : FitsT ns) : FitsT ((1, 0, 0) :: ns) := List.pairwise_cons.mpr ⟨fun x _ => .inl (Int.one_dvd _), f⟩
/-- numbers of a route -/
structure RtOk (ns : List T3) : Prop where
  ok : ∀ x ∈ ns, x.ok
  fit : FitsT ns
  n1 : 1 ≤ ns.length
  n2 : ns.length ≤ 60
theorem join_ok {ns : List T3} (h : ∀ x ∈ ns, x.ok) (f : FitsT ns) : Joined (1, 0, 0) ns (joinT ns) := joinF_ok one_ok h (fits_one f)
theorem join_arr {ns : List T3} (h : ∀ x ∈ ns, x.ok) (f : FitsT ns) (p : Int) : (joinT ns).arr p = endT ns p := by rw [(join_ok h f).arr, one_arr]
theorem join_mem {ns : List T3} (h : ∀ x ∈ ns, x.ok) (f : FitsT ns) (n : ns ≠ []) : ∃ x ∈ ns, (joinT ns).1 = x.1 := by
  rcases (join_ok h f).mem with e | e
  · cases ns with
    | nil => exact absurd rfl n
    | cons x r =>
      have h1 := (join_ok h f).ge.2 x List.mem_cons_self
      have h2 := (h x List.mem_cons_self).e1
      refine ⟨x, List.mem_cons_self, ?_⟩
      rw [e] at h1 ⊢
      show (1 : Int) = x.1
      have : x.1 ≤ 1 := h1
      omega
  · exact e
/-- the one line with these arrivals -/
theorem arr_uniq {x y : T3} (a : x.ok) (b : y.ok) (h : ∀ p, x.arr p = y.arr p) : x = y := by
  obtain ⟨e1, e2, e3⟩ := arr_inj a.e1 a.t1 a.t2 b.e1 b.t1 b.t2 h
  obtain ⟨x1, x2, x3⟩ := x
  obtain ⟨y1, y2, y3⟩ := y
  simp only at e1 e2 e3
  rw [e1, e2, e3]
theorem join_uniq {ns : List T3} {x : T3} (h : ∀ x ∈ ns, x.ok) (f : FitsT ns) (a : x.ok) (k : ∀ p, x.arr p = endT ns p) : x = joinT ns := arr_uniq a (join_ok h f).ok fun p => by rw [k, join_arr h f]
theorem arr_mono {x : T3} (a : x.ok) {p q : Int} (h : p ≤ q) : x.arr p ≤ x.arr q := by
  have := (galois (e := x.1) (t := x.2.1) (r := x.2.2) (p := q) (q := x.arr q) a.e1).mp (Int.le_refl _)
  exact (galois (e := x.1) (t := x.2.1) (r := x.2.2) (p := p) (q := x.arr q) a.e1).mpr (Int.le_trans h this)
theorem arr_self {x : T3} (a : x.ok) (p : Int) : p ≤ x.arr p := by
  have h1 : p ≤ dep x.1 x.2.1 p := dep_ge a.e1
  have h2 := a.r1
  show p ≤ dep x.1 x.2.1 p + x.2.2
  omega
theorem end_mono : ∀ {ns : List T3}, (∀ x ∈ ns, x.ok) → ∀ {p q : Int}, p ≤ q → endT ns p ≤ endT ns q
  | [], _, _, _, h => h
  | x :: r, ho, _, _, h => end_mono (ns := r) (fun y hy => ho y (List.mem_cons_of_mem _ hy)) (arr_mono (ho x List.mem_cons_self) h)
theorem end_self : ∀ {ns : List T3}, (∀ x ∈ ns, x.ok) → ∀ p : Int, p ≤ endT ns p
  | [], _, p => Int.le_refl p
  | x :: r, ho, p => Int.le_trans (arr_self (ho x List.mem_cons_self) p) (end_self (ns := r) (fun y hy => ho y (List.mem_cons_of_mem _ hy)) _)
theorem RtOk.one {x : T3} (h : x.ok) : RtOk [x] := ⟨by simpa using h, by simp, by simp, by simp⟩
theorem RtOk.sub {ns ms : List T3} (h : RtOk ns) (s : List.Sublist ms ns) (n : 1 ≤ ms.length) : RtOk ms := ⟨fun x hx => h.ok x (s.subset hx), h.fit.sublist s, n, Nat.le_trans s.length_le h.n2⟩
theorem RtOk.ne {ns : List T3} (h : RtOk ns) : ns ≠ [] := fun e => by have := h.n1; rw [e] at this; exact absurd this (by decide)
theorem RtOk.mem {ns ms : List T3} (h : RtOk ns) (k : ∀ x ∈ ms, ∃ y ∈ ns, x.1 = y.1) (o : ∀ x ∈ ms, x.ok) (n1 : 1 ≤ ms.length) (n2 : ms.length ≤ 60) : RtOk ms := by
  refine ⟨o, ?_, n1, n2⟩
  refine List.pairwise_of_forall_mem_list fun x hx y hy => ?_
  obtain ⟨u, hu, e1⟩ := k x hx
  obtain ⟨v, hv, e2⟩ := k y hy
  rw [e1, e2]
  clear e1 e2 hx hy k o
  have key : ∀ {ns : List T3}, FitsT ns → u ∈ ns → v ∈ ns → FitI u.1 v.1 := by
    intro ns
    induction ns with
    | nil => intro _ h; cases h
    | cons a r ih =>
      intro f hu hv
      obtain ⟨f1, f2⟩ := List.pairwise_cons.mp f
      rcases List.mem_cons.mp hu with e | hu
      · rcases List.mem_cons.mp hv with e2 | hv
        · rw [e, e2]; exact .inl (Int.dvd_refl _)
        · rw [e]; exact f1 v hv
      · rcases List.mem_cons.mp hv with e2 | hv
        · rw [e2]; exact (f1 u hu).sym
        · exact ih f2 hu hv
  exact key h.fit hu hv
theorem fits_join {xs : List T3} {y : T3} (h : ∀ x ∈ xs, x.ok) (f : FitsT (xs ++ [y])) : FitI (joinT xs).1 y.1 := by
  obtain ⟨f1, _, f3⟩ := List.pairwise_append.mp f
  rcases (join_ok h f1).mem with e | ⟨x, hx, e⟩
  · rw [e]; exact .inl (Int.one_dvd _)
  · rw [e]; exact f3 x hx y List.mem_cons_self
end Xi

/-! ## Rev -/
/-! xs[::-1]. -/
namespace Xi
open PySem PySem.Spec PyProof.Rows L2 PySem.SeqAt HT
theorem all_pick {α : Type} (xs : List α) : (List.range xs.length).filterMap (fun m => xs[m]?) = xs := by
  induction xs with
  | nil => rfl
  | cons x r ih =>
    rw [List.length_cons, List.range_succ_eq_map, List.filterMap_cons]
    show x :: List.filterMap _ (List.map Nat.succ _) = _
    rw [List.filterMap_map]
    show x :: List.filterMap (fun m => r[m]?) _ = _
    rw [ih]
theorem fm_congr {α β : Type} {f g : α → Option β} : ∀ {l : List α}, (∀ x ∈ l, f x = g x) → l.filterMap f = l.filterMap g
  | [], _ => rfl
  | x :: r, h => by
    rw [List.filterMap_cons, List.filterMap_cons, h x List.mem_cons_self, fm_congr fun y hy => h y (List.mem_cons_of_mem _ hy)]
theorem pick_rev {α : Type} (xs : List α) : pickSt xs ((xs.length : Int) - 1) (-1) xs.length = xs.reverse := by
  show (List.range xs.length).filterMap (fun (m : Nat) => xs[((xs.length : Int) - 1 + (m : Int) * -1).toNat]?) = _
  have e : (List.range xs.length).filterMap (fun (m : Nat) => xs[((xs.length : Int) - 1 + (m : Int) * -1).toNat]?) = ((List.range xs.length).map fun k => xs.length - 1 - k).filterMap fun m => xs[m]? := by
    rw [List.filterMap_map]
    refine fm_congr fun m hm => ?_
    have := List.mem_range.mp hm
    show _ = xs[xs.length - 1 - m]?
    congr 1
    omega
  rw [e, PySem.W.krv_range, List.filterMap_reverse, all_pick]
theorem adj_rev (n : Nat) : Builtin.Slice.sliceAdjust none none (-1) (n : Int) = ((n : Int) - 1, -1) := by
  first
  | rfl
  | simp [Builtin.Slice.sliceAdjust]
theorem places_rev (n : Nat) : Builtin.Slice.slicePlaces ((n : Int) - 1) (-1) (-1) = n := by
  unfold Builtin.Slice.slicePlaces
  by_cases h : n = 0
  · subst h; decide
  · simp
    omega
section
variable {X : Cx} {H0 : Hp} {M : Addr → Prop} {L : LL} {Q : V → LL → Prop} {e : Expr} {σ : L2.St} {pos p1 p2 p3 : Pos} {k : Nat}
theorem ke_revL (h : ke X H0 M e σ L fun x L1 => ∃ p xs, x = .ref p ∧ At L1 p (.lst xs) ∧ New H0 (.lst xs.reverse) L1 Q) : ke X H0 M (.Subscript e (.Slice none none (some (.UnaryOp .USub (.Constant (.int 1) k p1) p2)) p3) pos) σ L Q := fun H z =>
  we_of (pe_revL pe_we) (we_mono (h H z) fun x H1 ⟨L1, z1, p, xs, ex, ia, q⟩ => ⟨p, xs, ex, z1.sq ia, new_up z1 q⟩)
theorem ke_revT (h : ke X H0 M e σ L fun x L1 => ∃ p xs, x = .ref p ∧ At L1 p (.tup xs) ∧ xs.length ≤ 1000 ∧ New H0 (.tup xs.reverse) L1 Q) : ke X H0 M (.Subscript e (.Slice none none (some (.UnaryOp .USub (.Constant (.int 1) k p1) p2)) p3) pos) σ L Q := fun H z pins s I => by
  refine Subscript_ (thn (h H z pins s I) fun v s1 ⟨x, H1, I1, r1, L1, z1, p, xs, ex, ia, hl, q⟩ => ?_)
  subst ex
  cases r1
  have hst : PO X (some (.UnaryOp .USub (.Constant (.int 1) k p1) p2)) (tPart (tUn (rU fun i => .int (-i)) (tC (.int 1)))) := po_some (pe_un un_neg pe_int)
  refine wpAny_Slice (thn (po_none.run pins s1 σ H1 (fun o H2 => o = none ∧ H2 = H1) I1 ⟨rfl, rfl⟩) fun vl s2 ⟨l, H2, I2, pl, el, e2⟩ => ?_)
  subst el e2
  refine thn (po_none.run pins s2 σ H2 (fun o H3 => o = none ∧ H3 = H2) I2 ⟨rfl, rfl⟩) fun vu s3 ⟨u, H3, I3, pu, eu, e3⟩ => ?_
  subst eu e3
  refine thn (hst.run pins s3 σ H3 (fun o H4 => o = some (-1) ∧ H4 = H3) I3 ⟨1, rfl, -1, rfl, rfl, rfl⟩) fun vs s4 ⟨o, H4, I4, ps, eo, e4⟩ => ?_
  subst eo e4
  have I5 : Inv X pins σ H4 { s4 with heap := s4.heap.push { cls := .type "slice", data := .fields #[vl, vu, vs] } } := I4.kept (t' := s4.toks) fun b ob q => Heap.get?_push_of_some _ q
  obtain ⟨its, r, ht, hz2⟩ := I5.tuple (z1.st ia)
  have hlen : its.toArray.size = xs.length := by rw [List.size_toArray]; exact r.length.symm
  have hlen2 : its.length = xs.length := r.length.symm
  have e1 : pickSt its ((xs.length : Int) - 1) (-1) xs.length = its.reverse := by rw [← hlen2]; exact pick_rev its
  have rp : Vals xs.reverse its.reverse := r.reverse
  show wpAny (model X.prog X.w) X.A (subscriptTail e (.Slice none none (some (.UnaryOp .USub (.Constant (.int 1) k p1) p2)) p3) (.ref p) (.ref s4.heap.objs.size)) _ X.xe { s4 with heap := s4.heap.push { cls := .type "slice", data := .fields #[vl, vu, vs] } }
  refine tail_any (ops := [.ref p, .ref s4.heap.objs.size]) ht.typeIs (PyProof.Rows.slot_tuple_getitem.lookup) ?_ (by with_unfolding_all rfl)
  refine getItem_tuple_st ht (Heap.IsSliceOf.new _ vl vu vs) pl pu ps (c := -1) (a := (xs.length : Int) - 1) (b := -1) (k := xs.length) rfl (by decide) (by decide) (by rw [hlen]; exact adj_rev _) (places_rev _) ?_ ?_
  · show (pickSt its ((xs.length : Int) - 1) (-1) xs.length).length ≤ _
    rw [e1, List.length_reverse, hlen2]
    exact Nat.le_trans hl (by decide)
  have n5 := I5.hok.fresh (Nat.le_refl _)
  refine ⟨.ref _, _, I5.laid (t' := s4.toks) (o := .tup xs.reverse) (fun b ob q => Heap.get?_push_of_some _ q) (Nat.le_refl _) ?_, rfl, new_up z1 q _ n5⟩
  refine ⟨by rw [List.length_reverse]; exact Nat.le_trans hl (by decide), _, rp, ?_⟩
  rw [← e1]
  exact IsTup.new _ _
end
end Xi

/-! ## Num5 -/
/-! Latest starts of lines one after another; backward. -/
namespace Xi
abbrev T3.lat (x : T3) (p : Int) : Int := Xi.lat x.1 x.2.1 x.2.2 p
def latT : List T3 → Int → Int
  | [], g => g
  | x :: r, g => x.lat (latT r g)
abbrev backN (x : T3) : T3 := (x.1, backT x.1 x.2.1 x.2.2, x.2.2)
theorem backN_ok {x : T3} (h : x.ok) : (backN x).ok := ⟨h.e1, (backT_rng h.e1).1, (backT_rng h.e1).2, h.r1⟩
theorem end_lat : ∀ {ns : List T3}, (∀ x ∈ ns, x.ok) → ∀ {p g : Int}, endT ns p ≤ g ↔ p ≤ latT ns g
  | [], _, _, _ => Iff.rfl
  | x :: r, h, p, g => by
    have ih := end_lat (ns := r) (fun y hy => h y (List.mem_cons_of_mem _ hy)) (p := x.arr p) (g := g)
    show endT r (x.arr p) ≤ g ↔ p ≤ x.lat (latT r g)
    rw [ih]
    exact galois (h x List.mem_cons_self).e1
theorem le_ext {a b : Int} (h : ∀ p : Int, p ≤ a ↔ p ≤ b) : a = b := by
  have h1 := (h a).mp (Int.le_refl _)
  have h2 := (h b).mpr (Int.le_refl _)
  omega
theorem lat_join {ns : List T3} (h : ∀ x ∈ ns, x.ok) (f : FitsT ns) (g : Int) : (joinT ns).lat g = latT ns g := le_ext fun p => by
  rw [← end_lat h, ← join_arr h f]
  exact (galois (join_ok h f).ok.e1).symm
theorem back_end : ∀ {ns : List T3}, (∀ x ∈ ns, x.ok) → ∀ p : Int, endT (ns.reverse.map backN) p = -(latT ns (-p))
  | [], _, p => by show p = - -p; omega
  | x :: r, h, p => by
    have ih := back_end (ns := r) (fun y hy => h y (List.mem_cons_of_mem _ hy)) p
    rw [List.reverse_cons, List.map_append, endT_app, ih]
    show (backN x).arr (-(latT r (-p))) = -(x.lat (latT r (-p)))
    have := back_arr (t := x.2.1) (r := x.2.2) (p := -(latT r (-p))) (h x List.mem_cons_self).e1
    rw [Int.neg_neg] at this
    exact this
theorem backs_ok {ns : List T3} (h : ∀ x ∈ ns, x.ok) : ∀ x ∈ ns.reverse.map backN, x.ok := fun x hx => by
  obtain ⟨y, hy, rfl⟩ := List.mem_map.mp hx
  exact backN_ok (h y (List.mem_reverse.mp hy))
theorem back_lat_end {ns : List T3} (h : ∀ x ∈ ns, x.ok) (q : Int) : latT (ns.reverse.map backN) q = -(endT ns (-q)) := le_ext fun p => by
  rw [← end_lat (backs_ok h), back_end h]
  have := end_lat h (p := -q) (g := -p)
  constructor
  · intro k; have := this.mpr (by omega); omega
  · intro k; have := this.mp (by omega); omega
theorem backs_fit {ns : List T3} (f : FitsT ns) : FitsT (ns.reverse.map backN) := by
  unfold FitsT at f ⊢
  rw [List.pairwise_map]
  refine List.pairwise_reverse.mpr (f.imp fun h => ?_)
  exact FitI.sym h
/-- the line of the legs backward is the line backward -/
theorem back_join {ns : List T3} (h : ∀ x ∈ ns, x.ok) (f : FitsT ns) : backN (joinT ns) = joinT (ns.reverse.map backN) :=
  join_uniq (backs_ok h) (backs_fit f) (backN_ok (join_ok h f).ok) fun p => by
    rw [back_end h, ← lat_join h f]
    exact back_arr (join_ok h f).ok.e1
theorem backN_two {x : T3} (h : x.ok) : backN (backN x) = x := by
  show (x.1, backT x.1 (backT x.1 x.2.1 x.2.2) x.2.2, x.2.2) = x
  rw [back_back h.e1 h.t1 h.t2]
theorem backs_two {ns : List T3} (h : ∀ x ∈ ns, x.ok) : (ns.reverse.map backN).reverse.map backN = ns := by
  rw [← List.map_reverse, List.reverse_reverse, List.map_map]
  have e : ns.map (backN ∘ backN) = ns.map id := List.map_congr_left fun x hx => backN_two (h x hx)
  rw [e, List.map_id]
theorem late_first {x : T3} {r : List T3} {g : Int} : (latT (x :: r) g - x.2.1) % x.1 = 0 := Int.emod_eq_zero_of_dvd (lat_on x.1 x.2.1 x.2.2 (latT r g))
end Xi

/-! ## Lst -/
/-! Lists of any length: equal ones, repeated ones. -/
namespace Xi
open PySem PySem.Spec PyProof.Rows L2
section
variable {X : Cx} {H0 : Hp} {M : Addr → Prop} {L L' L'' : LL} {σ : L2.St} {nx : L2.St → LL → Prop} {rt : V → LL → Prop} {bk ct : L2.St → LL → Prop} {Q : V → LL → Prop}
theorem perm_mid (A B : LL) : (B ++ A).Perm (A ++ B) := List.perm_append_comm
theorem kb_nilP (p : L'.Perm L'') (s : Sub L'' L) (h : nx σ L') : kb X H0 M [] nx rt bk ct σ L := fun H z => wb_of pss_nil ⟨L', (z.sub s).perm p, h⟩
theorem kb_subP {ss : List Stmt} (p : L'.Perm L'') (s : Sub L'' L) (h : kb X H0 M ss nx rt bk ct σ L') : kb X H0 M ss nx rt bk ct σ L := fun H z => h H ((z.sub s).perm p)
theorem ke_subP {e : Expr} (p : L'.Perm L'') (s : Sub L'' L) (h : ke X H0 M e σ L' Q) : ke X H0 M e σ L Q := fun H z => h H ((z.sub s).perm p)
theorem ro_rep1 {l : Addr} {x : V} {n : Int} (ia : At L l (.lst [x])) (h0 : 0 ≤ n) (h1 : n ≤ 1000) (k : New H0 (.lst (List.replicate n.toNat x)) L Q) : ro X H0 M (binaryOp .Mult) (.ref l) (.int n) L Q :=
  ro_of op_rep fun H z => ⟨l, n, [x], rfl, rfl, z.get ia, by omega, by omega, by show 1 * n.toNat ≤ sizeLine; exact Nat.le_trans (show 1 * n.toNat ≤ 1000 by omega) (by decide), by
    have e : (List.replicate n.toNat [x]).flatten = List.replicate n.toNat x := by
      induction n.toNat with
      | zero => rfl
      | succ m ih => rw [List.replicate_succ, List.flatten_cons, ih]; rfl
    first
      | exact new_up z k
      | (rw [e]; exact new_up z k)
      | (intro p np; rw [e]; exact new_up z k p np)⟩
end
section
variable {α : Type} {L : LL} {v : α → V} {d : α → PyData}
theorem gns_map : ∀ {xs : List α}, (∀ x ∈ xs, Gn L (v x) (d x)) → Gns L (xs.map v) (xs.map d)
  | [], _ => .nil
  | x :: r, h => .cons (h x List.mem_cons_self) (gns_map fun y hy => h y (List.mem_cons_of_mem _ hy))
theorem gfs_map : ∀ {xs : List α}, (∀ x ∈ xs, Gf (v x) (d x)) → Gfs (xs.map v) (xs.map d)
  | [], _ => .nil
  | x :: r, h => .cons (h x List.mem_cons_self) (gfs_map fun y hy => h y (List.mem_cons_of_mem _ hy))
theorem gns_gfs : ∀ {vs : List V} {ds : List PyData}, Gfs vs ds → Gns L vs ds
  | _, _, .nil => .nil
  | _, _, .cons h t => .cons (.fl h) (gns_gfs t)
theorem gns_rep {x : V} {e : PyData} (h : Gn L x e) : ∀ n : Nat, Gns L (List.replicate n x) (List.replicate n e)
  | 0 => .nil
  | n + 1 => .cons h (gns_rep h n)
end
/-- (int, int, int), by its place -/
structure Tp where
  a : Addr
  n : T3
abbrev Tp.v (x : Tp) : V := .ref x.a
abbrev tpO (n : T3) : HO := .tup [.int n.1, .int n.2.1, .int n.2.2]
abbrev Tp.o (x : Tp) : Addr × HO := (x.a, tpO x.n)
abbrev tpD (n : T3) : PyData := .tuple [.int n.1, .int n.2.1, .int n.2.2]
theorem gn_tp {L : LL} {a : Addr} {n : T3} (h : At L a (tpO n)) : Gn L (.ref a) (tpD n) := .tup h (.cons .int (.cons .int (.cons .int .nil)))
theorem gns_tp {L : LL} {ts : List Tp} (h : Alls Tp.o L ts) : Gns L (ts.map Tp.v) ((ts.map Tp.n).map tpD) := by
  rw [List.map_map]
  exact gns_map fun x hx => gn_tp (h x hx)
theorem Gns.lays {L : LL} {vs : List V} {ds : List PyData} (h : Gns L vs ds) : PyData.canLayAll0 ds = true := h.lay.1
theorem spot_app' {a : Addr} {o : HO} {L : LL} {g : HO → LL} : ∀ Ts : LL, Spot L a o g → Spot (Ts ++ L) a o (fun o' => Ts ++ g o')
  | [], h => h
  | _ :: Ts, h => .there (spot_app' Ts h)
/-- all that L1 knows L0 knows -/
def Lift (L1 L0 : LL) : Prop := ∀ a o, At L1 a o → At L0 a o
theorem At.lift {L1 L0 : LL} {a : Addr} {o : HO} (k : Lift L1 L0) (h : At L1 a o) : At L0 a o := k a o h
theorem Alls.lift {α : Type} {h : α → Addr × HO} {L1 L0 : LL} {xs : List α} (k : Lift L1 L0) (a : Alls h L1 xs) : Alls h L0 xs := fun x hx => k _ _ (a x hx)
section
variable {α β : Type} {X : Cx} {elt tg iter : Expr} {scope : Scope} {pos : Pos} {H0 : Hp} {M : Addr → Prop} {L : LL} {σ : L2.St} {Q : V → LL → Prop} {P : Program} {w : World} {K : PySem.W.Frag} {mg : Str → Option Value} {base : Heap} {k : Nat} {N Nv Nw : List Str} {sc : Scope}
/-- [made(x) for x in xs], nothing that was changes -/
theorem Body.klMs (tp : Bool) (g : α → V) (v : β → V) (h : β → Addr × HO) (T : α → β → Prop) (bd : Body X P w K mg base k N Nv sc) (ns : Ns X N Nw) (own : List (Str × Nat)) (Nb No : List Str) (vis : ∀ x ∈ Nb, (relS scope sc).names.lookup x = some .local ∨ (relS scope sc).names.lookup x = some .cell ∨ (relS scope sc).names.lookup x = some .free) (pl : ∀ x ∈ Nb, (x == ("__debug__" : Str)) = false ∧ (x == ("__classdict__" : Str)) = false) (lc : ∀ x ∈ No, (relS scope sc).names.lookup x = some .local)
    (hk : ke X H0 M iter σ L fun w1 L1 => ∃ (a : Addr) (is : List α), w1 = .ref a ∧ At L1 a (sqO tp (is.map g)) ∧ is.length ≤ 1000 ∧
      (∀ x ∈ is, ∀ L0, Lift L1 L0 → ∀ B, Body B P w K mg base k N Nb (relS scope sc) → Ns B N No → kg B H0 M tg (g x) (wipe σ (own.map (·.2))) L0 fun σ2 L3 => wipe σ2 (own.map (·.2)) = wipe σ (own.map (·.2)) ∧
        ∀ B, Body B P w K mg base k N Nb (relS scope sc) → ke B H0 M elt σ2 L3 fun y L4 => ∃ (b : β), y = v b ∧ T x b ∧ H0 (h b).1 = none ∧ Sub (h b :: L0) L4) ∧
      ∀ D (ys : List β), H0 D = none → F2 T is ys → (∀ y ∈ ys, H0 (h y).1 = none) → Q (.ref D) ((D, .lst (ys.map v)) :: (L1 ++ ys.map h))) :
    kLc X H0 M elt tg iter [] scope own σ L Q := by
  refine Body.klM tp g v h T bd ns own Nb No vis pl lc fun H z => we_mono (hk H z) fun w1 H1 ⟨L1, z1, a, is, ev, ia, hl, st, en⟩ => ⟨L1, z1, a, is, fun L => L = L1, ev, rfl, fun L2 e => by rw [e]; exact ia, hl, fun x hx D acc L2 nD e ch B bB nB => ?_, fun D L2 ys nD e f2 nf => by rw [e]; exact en D ys nD f2 nf⟩
  subst e
  have key := st x hx ((D, acc) :: (L2 ++ ch)) (fun a o h => .there (.app_l h)) B bB nB
  refine fun H z pins s u I r => thn (key H z pins s u I r) fun _ s' ⟨σ', H', I', L3, z3, e4, q⟩ => ⟨σ', H', I', L3, z3, e4, fun B2 bB2 => ?_⟩
  exact fun H z => we_mono (q B2 bB2 H z) fun y H2 ⟨L4, z4, b, e1, e2, e3, e5⟩ => ⟨L4, z4, b, L2, _, e1, e2, e3, rfl, e5, .refl _⟩
theorem Body.lcMs (tp : Bool) (g : α → V) (v : β → V) (h : β → Addr × HO) (T : α → β → Prop) (bd : Body X P w K mg base k N Nv sc) (ns : Ns X N Nw) (own : List (Str × Nat)) (Nb No : List Str) (ok : BlkOk N sc scope own) (vis : ∀ x ∈ Nb, (relS scope sc).names.lookup x = some .local ∨ (relS scope sc).names.lookup x = some .cell ∨ (relS scope sc).names.lookup x = some .free) (pl : ∀ x ∈ Nb, (x == ("__debug__" : Str)) = false ∧ (x == ("__classdict__" : Str)) = false) (lc : ∀ x ∈ No, (relS scope sc).names.lookup x = some .local) (hs : ∀ x, foldedSetIterable iter X.env x = pure x)
    (hk : ke X H0 M iter σ L fun w1 L1 => ∃ (a : Addr) (is : List α), w1 = .ref a ∧ At L1 a (sqO tp (is.map g)) ∧ is.length ≤ 1000 ∧
      (∀ x ∈ is, ∀ L0, Lift L1 L0 → ∀ B, Body B P w K mg base k N Nb (relS scope sc) → Ns B N No → kg B H0 M tg (g x) (wipe σ (own.map (·.2))) L0 fun σ2 L3 => wipe σ2 (own.map (·.2)) = wipe σ (own.map (·.2)) ∧
        ∀ B, Body B P w K mg base k N Nb (relS scope sc) → ke B H0 M elt σ2 L3 fun y L4 => ∃ (b : β), y = v b ∧ T x b ∧ H0 (h b).1 = none ∧ Sub (h b :: L0) L4) ∧
      ∀ D (ys : List β), H0 D = none → F2 T is ys → (∀ y ∈ ys, H0 (h y).1 = none) → Q (.ref D) ((D, .lst (ys.map v)) :: (L1 ++ ys.map h))) :
    ke X H0 M (.ListComp elt [⟨tg, iter, [], 0⟩] scope pos) σ L Q :=
  ke_kl bd.calm (by rw [ns.eq]; exact ns.nd) (by rw [ns.eq, bd.scope]; exact ok) hs (Body.klMs tp g v h T bd ns own Nb No vis pl lc hk)
end
end Xi

/-! ## Num6 -/
/-! Routes changed: moved, multiplied, a leg more, the same again. -/
namespace Xi
abbrev moveN (s : Int) (x : T3) : T3 := (x.1, (x.2.1 + s) % x.1, x.2.2)
abbrev growN (m : Int) (x : T3) : T3 := (m * x.1, m * x.2.1, m * x.2.2)
theorem moveN_ok {s : Int} {x : T3} (h : x.ok) : (moveN s x).ok := ⟨h.e1, Int.emod_nonneg _ (by have := h.e1; omega), Int.emod_lt_of_pos _ h.e1, h.r1⟩
theorem growN_ok {m : Int} {x : T3} (hm : 0 < m) (h : x.ok) : (growN m x).ok :=
  ⟨Int.mul_pos hm h.e1, Int.mul_nonneg (by omega) h.t1, Int.mul_lt_mul_of_pos_left h.t2 hm, Int.mul_nonneg (by omega) h.r1⟩
theorem move_arr {s : Int} {x : T3} (p : Int) : (moveN s x).arr (p + s) = x.arr p + s := by
  show p + s + ((x.2.1 + s) % x.1 - (p + s)) % x.1 + x.2.2 = p + (x.2.1 - p) % x.1 + x.2.2 + s
  rw [Int.sub_emod, Int.emod_emod_of_dvd _ (Int.dvd_refl x.1), ← Int.sub_emod, show x.2.1 + s - (p + s) = x.2.1 - p by omega]
  omega
theorem grow_arr {m : Int} {x : T3} (hm : 0 < m) (p : Int) : (growN m x).arr (m * p) = m * x.arr p := by
  show m * p + (m * x.2.1 - m * p) % (m * x.1) + m * x.2.2 = m * (p + (x.2.1 - p) % x.1 + x.2.2)
  rw [← Int.mul_sub, Int.mul_emod_mul_of_pos _ _ hm, Int.mul_add, Int.mul_add]
theorem move_end {s : Int} : ∀ (ns : List T3) (p : Int), endT (ns.map (moveN s)) (p + s) = endT ns p + s
  | [], _ => rfl
  | x :: r, p => by
    show endT (r.map (moveN s)) ((moveN s x).arr (p + s)) = endT r (x.arr p) + s
    rw [move_arr]; exact move_end r _
theorem grow_end {m : Int} (hm : 0 < m) : ∀ (ns : List T3) (p : Int), endT (ns.map (growN m)) (m * p) = m * endT ns p
  | [], _ => rfl
  | x :: r, p => by
    show endT (r.map (growN m)) ((growN m x).arr (m * p)) = m * endT r (x.arr p)
    rw [grow_arr hm]; exact grow_end hm r _
theorem move_fit {s : Int} {ns : List T3} (f : FitsT ns) : FitsT (ns.map (moveN s)) := by
  unfold FitsT at f ⊢
  rw [List.pairwise_map]; exact f
theorem grow_fit {m : Int} {ns : List T3} (f : FitsT ns) : FitsT (ns.map (growN m)) := by
  unfold FitsT at f ⊢
  rw [List.pairwise_map]
  exact f.imp fun h => h.elim (fun h => .inl (Int.mul_dvd_mul_left m h)) fun h => .inr (Int.mul_dvd_mul_left m h)
theorem map_ok {g : T3 → T3} {ns : List T3} (h : ∀ x ∈ ns, x.ok) (k : ∀ x, T3.ok x → T3.ok (g x)) : ∀ x ∈ ns.map g, x.ok := fun x hx => by
  obtain ⟨y, hy, rfl⟩ := List.mem_map.mp hx
  exact k y (h y hy)
theorem RtOk.move {s : Int} {ns : List T3} (h : RtOk ns) : RtOk (ns.map (moveN s)) := ⟨map_ok h.ok fun _ => moveN_ok, move_fit h.fit, by rw [List.length_map]; exact h.n1, by rw [List.length_map]; exact h.n2⟩
theorem RtOk.grow {m : Int} {ns : List T3} (hm : 0 < m) (h : RtOk ns) : RtOk (ns.map (growN m)) := ⟨map_ok h.ok fun _ => growN_ok hm, grow_fit h.fit, by rw [List.length_map]; exact h.n1, by rw [List.length_map]; exact h.n2⟩
theorem move_join {s : Int} {ns : List T3} (h : RtOk ns) : moveN s (joinT ns) = joinT (ns.map (moveN s)) :=
  join_uniq h.move.ok h.move.fit (moveN_ok (join_ok h.ok h.fit).ok) fun p => by
    have a := move_arr (s := s) (x := joinT ns) (p - s)
    have b := move_end (s := s) ns (p - s)
    rw [Int.sub_add_cancel] at a b
    rw [a, b, join_arr h.ok h.fit]
theorem ediv_split (m p : Int) (hm : 0 < m) : ∃ q r, p = m * q + r ∧ 0 ≤ r ∧ r < m := ⟨p / m, p % m, (Int.mul_ediv_add_emod p m).symm, Int.emod_nonneg _ (by omega), Int.emod_lt_of_pos _ hm⟩
theorem grow_arr_up {m : Int} {x : T3} (hm : 0 < m) (h : x.ok) {q r : Int} (h0 : 0 < r) (h1 : r < m) : (growN m x).arr (m * q + r) = (growN m x).arr (m * (q + 1)) := by
  -- no departure between
  have e1 : 0 < m * x.1 := Int.mul_pos hm h.e1
  have a1 := dep_ge (t := m * x.2.1) (p := m * (q + 1)) e1
  have a2 := dep_lt (t := m * x.2.1) (p := m * (q + 1)) e1
  have a3 := dep_on (m * x.1) (m * x.2.1) (m * (q + 1))
  have b1 := dep_ge (t := m * x.2.1) (p := m * q + r) e1
  have b2 := dep_lt (t := m * x.2.1) (p := m * q + r) e1
  have b3 := dep_on (m * x.1) (m * x.2.1) (m * q + r)
  have em : m * (q + 1) = m * q + m := by rw [Int.mul_add, Int.mul_one]
  show dep (m * x.1) (m * x.2.1) (m * q + r) + _ = dep (m * x.1) (m * x.2.1) (m * (q + 1)) + _
  have key : dep (m * x.1) (m * x.2.1) (m * (q + 1)) = dep (m * x.1) (m * x.2.1) (m * q + r) := by
    refine dep_uniq b3 ?_ ?_
    · -- a multiple of m
      obtain ⟨z, hz⟩ := b3
      have ez : dep (m * x.1) (m * x.2.1) (m * q + r) = m * (x.1 * z + x.2.1) := by
        rw [Int.mul_add, ← Int.mul_assoc]; omega
      rw [ez] at b1 ⊢
      have : q < x.1 * z + x.2.1 := by
        refine Int.lt_of_not_ge fun k => ?_
        have := Int.mul_le_mul_of_nonneg_left k (show (0:Int) ≤ m by omega)
        omega
      exact Int.mul_le_mul_of_nonneg_left (by omega) (by omega)
    · omega
  rw [key]
theorem grow_end_up {m : Int} (hm : 0 < m) {ns : List T3} (h : RtOk ns) {q r : Int} (h0 : 0 < r) (h1 : r < m) : endT (ns.map (growN m)) (m * q + r) = endT (ns.map (growN m)) (m * (q + 1)) := by
  cases ns with
  | nil => exact absurd rfl h.ne
  | cons x t =>
    show endT (t.map (growN m)) ((growN m x).arr (m * q + r)) = endT (t.map (growN m)) ((growN m x).arr (m * (q + 1)))
    rw [grow_arr_up hm (h.ok x List.mem_cons_self) h0 h1]
theorem grow_join {m : Int} (hm : 0 < m) {ns : List T3} (h : RtOk ns) : growN m (joinT ns) = joinT (ns.map (growN m)) := by
  have jo := (join_ok h.ok h.fit).ok
  refine join_uniq (h.grow hm).ok (h.grow hm).fit (growN_ok hm jo) fun p => ?_
  obtain ⟨q, r, rfl, h0, h1⟩ := ediv_split m p hm
  by_cases z : r = 0
  · subst z
    rw [Int.add_zero, grow_arr hm, grow_end hm, join_arr h.ok h.fit]
  · rw [grow_arr_up hm jo (by omega) h1, grow_end_up hm h (by omega) h1, grow_arr hm, grow_end hm, join_arr h.ok h.fit]
/-- a stop at the arrivals -/
theorem stop_arr {x : T3} (h : x.ok) (p : Int) : T3.arr (x.1, (x.2.1 + x.2.2) % x.1, 0) (x.arr p) = x.arr p := by
  show dep x.1 ((x.2.1 + x.2.2) % x.1) (x.arr p) + 0 = x.arr p
  have d := dep_on x.1 x.2.1 p
  have e : x.1 ∣ (x.arr p - (x.2.1 + x.2.2) % x.1) := by
    have e2 := emod_dvd_sub (x.2.1 + x.2.2) x.1
    have := Int.dvd_add d e2
    rw [show dep x.1 x.2.1 p - x.2.1 + (x.2.1 + x.2.2 - (x.2.1 + x.2.2) % x.1) = x.arr p - (x.2.1 + x.2.2) % x.1 by show _ = dep x.1 x.2.1 p + x.2.2 - _; omega] at this
    exact this
  rw [dep_of_dvd e, Int.add_zero]
theorem end_one (x : T3) (p : Int) : endT [x] p = x.arr p := rfl
theorem end_le {A : Int} : ∀ {ns : List T3}, (∀ x ∈ ns, x.ok ∧ x.1 + x.2.2 ≤ A) → ∀ p, endT ns p ≤ p + ns.length * A
  | [], _, p => by show p ≤ p + ((0 : Nat) : Int) * A; omega
  | x :: r, h, p => by
    obtain ⟨h1, h2⟩ := h x List.mem_cons_self
    have ih := end_le (ns := r) (fun y hy => h y (List.mem_cons_of_mem _ hy)) (x.arr p)
    have a : dep x.1 x.2.1 p < p + x.1 := dep_lt h1.e1
    have b : x.arr p = dep x.1 x.2.1 p + x.2.2 := rfl
    have e : (((x :: r).length : Nat) : Int) * A = (r.length : Int) * A + A := by rw [List.length_cons, Int.natCast_add, Int.add_mul]; omega
    show endT r (x.arr p) ≤ _
    omega
/-- the ride of the line of a route -/
theorem join_ride {A : Int} {ns : List T3} (h : RtOk ns) (hA : ∀ x ∈ ns, x.1 + x.2.2 ≤ A) : (joinT ns).2.2 ≤ ns.length * A := by
  have a := join_arr h.ok h.fit (joinT ns).2.1
  have b := end_le (fun x hx => ⟨h.ok x hx, hA x hx⟩) (joinT ns).2.1
  have c : (joinT ns).arr (joinT ns).2.1 = (joinT ns).2.1 + (joinT ns).2.2 := by show dep _ _ _ + _ = _; rw [dep_self]
  omega
/-- a leg more -/
theorem end_more {xs ys : List T3} {z : T3} (hy : ∀ x ∈ ys, x.ok) (hz : z.ok) (p : Int) : endT (xs ++ ys) p ≤ endT (xs ++ z :: ys) p := by
  rw [endT_app, endT_app]
  exact end_mono hy (arr_self hz _)
theorem later_join {ns ms : List T3} (h : RtOk ns) (k : RtOk ms) (ft : FitI (joinT ns).1 (joinT ms).1) (l : ∀ p, endT ns p ≤ endT ms p) : laterB (joinT ns).1 (joinT ns).2.1 (joinT ns).2.2 (joinT ms).1 (joinT ms).2.1 (joinT ms).2.2 = true :=
  (later_iff (join_ok h.ok h.fit).ok.e1 (join_ok k.ok k.fit).ok.e1 ft).mpr fun p => by
    have a := join_arr h.ok h.fit p
    have b := join_arr k.ok k.fit p
    have := l p
    show (joinT ns).arr p ≤ (joinT ms).arr p
    omega
theorem RtOk.rep3 {ns : List T3} (h : RtOk ns) (l : ns.length ≤ 20) : RtOk (ns ++ ns) ∧ RtOk (ns ++ ns ++ ns) := by
  have two : ∀ ms : List T3, (∀ x ∈ ms, x ∈ ns) → 1 ≤ ms.length → ms.length ≤ 60 → RtOk ms := fun ms k a b => h.mem (fun x hx => ⟨x, k x hx, rfl⟩) (fun x hx => h.ok x (k x hx)) a b
  have n1 := h.n1
  refine ⟨two _ (fun x hx => (List.mem_append.mp hx).elim id id) (by rw [List.length_append]; omega) (by rw [List.length_append]; omega), two _ (fun x hx => (List.mem_append.mp hx).elim (fun hx => (List.mem_append.mp hx).elim id id) id) (by rw [List.length_append, List.length_append]; omega) (by rw [List.length_append, List.length_append]; omega)⟩
theorem rep3_join {ns : List T3} (h : RtOk ns) (l : ns.length ≤ 20) : ((joinT ns).1, (joinT ns).2.1, mulR (joinT ns).1 (joinT ns).2.2 3) = joinT (ns ++ ns ++ ns) := by
  have j := (join_ok h.ok h.fit).ok
  have k := (h.rep3 l).2
  refine join_uniq k.ok k.fit ⟨j.e1, j.t1, j.t2, mulR_rng j.e1 j.r1 (by decide)⟩ fun p => ?_
  rw [endT_app, endT_app, ← join_arr h.ok h.fit, ← join_arr h.ok h.fit, ← join_arr h.ok h.fit]
  have a := arr_mulR (t := (joinT ns).2.1) (r := (joinT ns).2.2) (n := 2) (p := p) j.e1
  have b := arr_mulR (t := (joinT ns).2.1) (r := (joinT ns).2.2) (n := 1) (p := p) j.e1
  rw [mulR_one] at b
  show Xi.arr _ _ (mulR (joinT ns).1 (joinT ns).2.2 (2 + 1)) p = _
  rw [a, show (2 : Int) = 1 + 1 from rfl, b]
end Xi

/-! ## Ch3 -/
/-! a < b < c < d. -/
namespace Xi
open PySem PySem.Spec PyProof.Rows L2
section
variable {X : Cx} {H0 : Hp} {M : Addr → Prop} {a b c d : Expr} {σ : L2.St} {L : LL} {QT : Bool → LL → Prop} {pos : Pos}
theorem kt_chain3 {op op' op2 : CmpOp} (hm : lastMarks [op, op', op2] [b, c, d] = false)
    (h : ke X H0 M a σ L fun x L1 => ke X H0 M b σ L1 fun y L2 => ro X H0 M (compareOp op) x y L2 fun t L3 => Pick t (ke X H0 M c σ L3 fun w L4 => ro X H0 M (compareOp op') y w L4 fun t2 L5 => Pick t2 (ke X H0 M d σ L5 fun v L6 => ro X H0 M (compareOp op2) w v L6 fun t3 L7 => ∃ k, t3 = .bl k ∧ QT k L7) (QT false L5)) (QT false L3)) : kt X H0 M (.Compare a [op, op', op2] [b, c, d] pos) σ L QT := fun H z pins s I => by
  refine isTrue_chain (thn (h H z pins s I) fun v s1 ⟨x, H1, I1, r1, L1, z1, q1⟩ => test_link (thn (q1 H1 z1 pins s1 I1) fun u s2 ⟨y, H2, I2, r2, L2, z2, q2⟩ =>
    thn (q2 H2 z2 pins s2 σ v u I2 r1 r2) fun e s3 ⟨t, H3, I3, r3, L3, z3, k, ek, kt, kf⟩ => ?_)) hm
  subst ek
  cases r3
  refine wpAny_truthy_bool ?_
  cases k with
  | false => exact ite_ff ⟨H3, I3, L3, z3, kf rfl⟩
  | true =>
    refine ite_tt (test_link (thn (kt rfl H3 z3 pins s3 I3) fun w' s4 ⟨w, H4, I4, r4, L4, z4, q4⟩ => thn (q4 H4 z4 pins s4 σ u w' I4 r2 r4) fun e2 s5 ⟨t2, H5, I5, r5, L5, z5, k2, ek2, kt2, kf2⟩ => ?_))
    subst ek2
    cases r5
    refine wpAny_truthy_bool ?_
    cases k2 with
    | false => exact ite_ff ⟨H5, I5, L5, z5, kf2 rfl⟩
    | true =>
      refine ite_tt (test_last (thn (kt2 rfl H5 z5 pins s5 I5) fun v' s6 ⟨v2, H6, I6, r6, L6, z6, q6⟩ => thn (q6 H6 z6 pins s6 σ w' v' I6 r4 r6) fun e3 s7 ⟨t3, H7, I7, r7, L7, z7, k3, ek3, q7⟩ => ?_))
      subst ek3
      cases r7
      exact wpAny_truthy_bool ⟨H7, I7, L7, z7, q7⟩
end
theorem cut_d {xs : List V} {k : Nat} {v : Int} (e : v = (k : Int)) (hk : k ≤ xs.length) : cutV xs (some v) none = xs.drop k := by
  subst e
  unfold cutV
  rw [HT.sIx_nat, show min k xs.length = k by omega]
  show (xs.drop k).take (xs.length - k) = _
  exact List.take_of_length_le (by rw [List.length_drop]; exact Nat.le_refl _)
theorem cut_t {xs : List V} {k : Nat} {v : Int} (e : v = (k : Int)) : cutV xs none (some v) = xs.take k := by
  subst e
  unfold cutV
  rw [HT.sIx_nat]
  show (xs.drop 0).take (min k xs.length - 0) = _
  rw [List.drop_zero, Nat.sub_zero]
  by_cases h : k ≤ xs.length
  · rw [show min k xs.length = k by omega]
  · rw [show min k xs.length = xs.length by omega, List.take_length, List.take_of_length_le (by omega)]
theorem cut_m {xs : List V} {i j : Nat} {v w : Int} (e : v = (i : Int)) (e2 : w = (j : Int)) (h1 : i ≤ j) (h2 : j ≤ xs.length) : cutV xs (some v) (some w) = (xs.take j).drop i := by
  subst e e2
  unfold cutV
  rw [HT.sIx_nat, HT.sIx_nat, show min i xs.length = i by omega, show min j xs.length = j by omega, List.drop_take]
section
variable {K : PySem.W.Frag} {H0 : Hp} {M : Addr → Prop} {L : LL} {Q : V → LL → Prop} {p : Addr} {xs ys : List V} {l u : Option Int}
theorem sl_eq (ia : At L p (.lst xs)) (e : cutV xs l u = ys) (k : New H0 (.lst ys) L Q) : ∃ p' xs', V.ref p = .ref p' ∧ (At L p' (.lst xs') ∨ (SqL K H0 p' xs' ∧ ¬ M p')) ∧ New H0 (.lst (cutV xs' l u)) L Q := ⟨p, xs, rfl, .inl ia, by rw [e]; exact k⟩
end
theorem drop_of_cons {α : Type} {xs : List α} {k : Nat} {x : α} (h : xs[k]? = some x) : xs.drop k = x :: xs.drop (k + 1) := by
  obtain ⟨hk, e⟩ := List.getElem?_eq_some_iff.mp h
  rw [List.drop_eq_getElem_cons hk, e]
theorem atI_nat {α : Type} {xs : List α} {k : Nat} {v : Int} {x : α} (e : v = (k : Int)) (h : xs[k]? = some x) : atI xs v = some x := by
  subst e
  obtain ⟨hk, _⟩ := List.getElem?_eq_some_iff.mp h
  unfold atI ixN
  rw [if_pos (by omega), if_pos (by omega)]
  simpa using h
end Xi

/-! ## Pw -/
/-! third powers of wide numbers -/
namespace Xi
open PySem PySem.Spec PyProof.Rows L2
variable {X : Cx}
theorem op_powW : OpR X (binaryOp .Pow) (rI (fun i j => 0 ≤ j ∧ (Builtin.Int.intBits i : Int) * j ≤ 2 ^ 27) fun i j => .int (i ^ j.toNat)) := opI fun _ _ _ _ _ _ _ hc q => pow_int hc.1 hc.2 q
theorem ro_powW3 {H0 : Hp} {M : Addr → Prop} {L : LL} {Q : V → LL → Prop} {i : Int} {n : Nat} (hb : i.natAbs < 2 ^ n) (h9 : n ≤ 9000) (h : Q (.int (i * i * i)) L) : ro X H0 M (binaryOp .Pow) (.int i) (.int 3) L Q :=
  ro_of op_powW fun _ z => ⟨i, 3, rfl, rfl, ⟨by decide, by
    have := intBits_le hb
    show (Builtin.Int.intBits i : Int) * 3 ≤ 134217728
    omega⟩, L, z, by
    show Q (.int (i ^ 3)) L
    rw [show i ^ 3 = i * i * i by rw [Int.pow_succ, Int.pow_succ, Int.pow_succ, Int.pow_zero, Int.one_mul]]
    exact h⟩
theorem inV_ints (i : Int) : ∀ is : List Int, inV (.int i) (is.map V.int) = decide (i ∈ is)
  | [] => rfl
  | j :: r => by
    have ih := inV_ints i r
    show ((j == i) || inV (.int i) (r.map V.int)) = _
    rw [ih, Bool.eq_iff_iff]
    simp only [Bool.or_eq_true, beq_iff_eq, decide_eq_true_eq, List.mem_cons]
    exact ⟨fun h => h.elim (fun e => .inl e.symm) .inr, fun h => h.elim (fun e => .inl e.symm) .inr⟩
theorem ro_inL {H0 : Hp} {M : Addr → Prop} {L : LL} {Q : V → LL → Prop} {i : Int} {is : List Int} {p : Addr} (ia : At L p (.lst (is.map V.int))) (h : Q (.bl (decide (i ∈ is))) L) : ro X H0 M (compareOp .In) (.int i) (.ref p) L Q :=
  ro_of op_in_seq fun H z => ⟨p, is.map V.int, rfl, .inl (z.sq ia), rfl, flat_ints is, L, z, by
    show Q (.bl (inV (.int i) (is.map V.int))) L
    rw [inV_ints]
    exact h⟩
end Xi

/-! ## Sets -/
/-! sorted(set(xs)), xs a list of ints. -/
namespace Xi
open PySem PySem.Spec PyProof.Rows L2
abbrev noneS (w : World) : Obj := { cls := .type "set", dict := none, data := .set #[] 0 (.fresh 0 0 (!w.params.followText "set-order")) }
section
variable {P : Program} {w : World} {A : Around} {E : Value → Shared → Prop} {s : Shared} {l : Addr} {xs : Array Value} {ns : List Int}
/-- what the filling leaves behind -/
abbrev Filled (w : World) (s : Shared) (ns : List Int) (h2 : Heap) (c : Nat) : Prop := SetR w h2 s.heap.objs.size (fun j => decide (j ∈ ns)) c ∧ c ≤ ns.length ∧ ∀ b o, s.heap.get? b = some o → h2.get? b = some o
theorem set_fill {Q : PySem.Fin → Shared → Prop} (hh : A.handled = none) (hl : s.heap.IsList l xs) (hi : IntsAre xs.toList ns) (hb : ns.length + 1 < scanBound)
    (k : ∀ h2 tk c, Filled w s ns h2 c → Q (.done (.ret .none)) { s with heap := h2, toks := tk }) :
    wpAny (model P w) A.in1 (Builtin.«set.__init__» ⟨[.ref s.heap.objs.size, .ref l], []⟩) Q E { s with heap := s.heap.push (noneS w) } := by
  have hz : xs.size = ns.length := by have q := IntsAre.length hi; rwa [Array.length_toList] at q
  obtain ⟨o, ho, hc, m, hd⟩ := hl
  obtain ⟨oc, od, oa, os⟩ := o
  simp only at hc hd
  subst hc hd
  have lt := Heap.lt_size ho
  have ho2 : (s.heap.push (noneS w)).get? l = some _ := Heap.get?_push_of_some _ ho
  have hl2 : (s.heap.push (noneS w)).IsList l xs := ⟨_, ho2, rfl, m, rfl⟩
  have hsls := F.sub_list_set
  have hslf := F.sub_list_frozenset
  have nd : (Value.type "list" == Value.type "dict") = false := by decide
  have hS : (s.heap.push (noneS w)).get? s.heap.objs.size = some (noneS w) := Heap.get?_push_size _ rfl
  unfold Builtin.«set.__init__» noKeywords Builtin.Frozenset.updateFrom
  generalize hPI : pyIter = PI
  wp_walk
  subst hPI
  refine wpAny_pyIter_list hl2 (wpAny_bind (wpAny_runValue ?_))
  have dl : l ≠ (s.heap.push (noneS w)).objs.size := by rw [Heap.size_push]; exact Nat.ne_of_lt (Nat.lt_succ_of_lt lt)
  have ds : s.heap.objs.size ∉ [(s.heap.push (noneS w)).objs.size, l] := by
    rw [Heap.size_push]
    simp only [List.mem_cons, List.mem_singleton, List.not_mem_nil, or_false, not_or]
    exact ⟨Nat.ne_of_lt (Nat.lt_succ_self _), Nat.ne_of_gt lt⟩
  have vals : ∀ (i : Nat) (v : Value), xs[i]? = some v → ∃ k t, ns[i]? = some k ∧ v = .int k t := fun i v hv => by
    have li : i < ns.length := by rw [← hz]; exact (Array.getElem?_eq_some_iff.mp hv).1
    obtain ⟨t, e⟩ := PyProof.Rows.IntsAre.int_at hi i v (by rw [Array.getElem?_toList]; exact hv)
    exact ⟨ns[i], t, List.getElem?_eq_getElem li, by rw [e, List.getD_eq_getElem?_getD, List.getElem?_eq_getElem li]; rfl⟩
  refine set_update_ints ((Walks.list (by simp [hh]) _ l dl xs).toS) s.heap.objs.size ds ns hz hb vals xs.size 0 _ (by omega) (Nat.zero_le _) ⟨⟨_, Heap.get?_push_size _ rfl, rfl, rfl⟩, hl2.push _⟩ ⟨0, Nat.le_refl 0, setR_new_at (Heap.get?_push_of_some _ hS)⟩ fun s2 c hm hc2 R => ?_
  obtain ⟨h2, g2, d2, t2, o2⟩ := s2
  obtain rfl : g2 = s.gens := hm.gens
  obtain rfl : d2 = s.drawn := hm.drawn
  obtain rfl : o2 = s.os := hm.os
  refine wpAny_pure (wpAny_pure (k h2 t2 c ⟨R, by rw [← hz]; exact hc2, fun b o e => ?_⟩))
  have b0 := Heap.lt_size e
  refine hm.heap b o ?_ (Heap.get?_push_of_some _ (Heap.get?_push_of_some _ e))
  rw [Heap.size_push]
  simp only [List.mem_cons, List.mem_singleton, List.not_mem_nil, or_false, not_or]
  exact ⟨Nat.ne_of_lt b0, Nat.ne_of_lt (Nat.lt_succ_of_lt b0)⟩
theorem set_make {Q : Value → Shared → Prop} (hh : A.handled = none) (hl : s.heap.IsList l xs) (hi : IntsAre xs.toList ns) (hb : ns.length + 1 < scanBound)
    (k : ∀ h2 tk c, Filled w s ns h2 c → Q (.ref s.heap.objs.size) { s with heap := h2, toks := tk }) : wpAny (model P w) A (call (.type "set") [.ref l]) Q E s := by
  have m1 := F.called_set.mro
  have m2 := F.called_set.made
  have m3 := F.called_set.sub
  have m4 := F.called_set.notType
  have m5 := F.called_set.canCreate
  have m6 := F.typeCall_set_1 (.ref l)
  obtain ⟨c0, tl, m1⟩ := m1
  refine wpAny_call (codeAny_of_tree ?_)
  show wpAny (model P w) A.in1 (callAny (.type "set") _) _ _ s
  refine wpAny_pure ⟨Code.quiet_builtin _ (by decide +kernel), codeAny_builtin F.entry_type_call ?_⟩
  rw [Around.under_plain (weight_type_call_type "set" [.ref l] []) rfl]
  repeat (any_goals (first | assumption | wp_step))
  refine codeAny_mono (code_set_led1 (.ref l) (E := E) (Q₁ := fun v s1 => v = .ref s.heap.objs.size ∧ s1 = { s with heap := s.heap.push (noneS w) }) ⟨rfl, rfl⟩) fun r1 s1 h1 => ?_
  match r1, h1 with
  | .error _, h1 => exact h1
  | .ok (.ret v), h1 =>
    obtain ⟨rfl, rfl⟩ := h1
    have hT : Shared.TypeIs { s with heap := s.heap.push (noneS w) } (.ref s.heap.objs.size) "set" := ⟨_, Heap.get?_push_size _ rfl, rfl⟩
    have i1 := F.called_set.init.lookup
    have i2 := F.called_set.init.bind (.ref s.heap.objs.size)
    repeat (any_goals (first | assumption | wp_step))
    refine codeAny_mono (codeAny_call_builtin (R := wants (fun v s2 => v = .none ∧ ∃ h2 tk c, s2 = { s with heap := h2, toks := tk } ∧ Filled w s ns h2 c) E) F.called_set.init.plain F.entry_set_init (check_set_init_1 hT ?_)) fun r2 s2 e2 => ?_
    · refine set_fill (by simp [hh]) hl hi hb fun h2 tk c f => ?_
      exact ⟨rfl, h2, tk, c, rfl, f⟩
    · match r2, e2 with
      | .error _, e2 => exact e2
      | .ok (.ret _), e2 =>
        obtain ⟨rfl, h2, tk, c, rfl, f⟩ := e2
        repeat (any_goals (first | assumption | wp_step))
        exact k _ _ _ f
end
section
variable {X : Cx}
/-- set(xs), xs a list of ints -/
def rSetI (K : PySem.W.Frag) (w : World) : List V → Hp → VK → Prop := fun vs H Q => ∃ (l : Addr) (ns : List Int), vs = [.ref l] ∧ SqL K H l (ns.map V.int) ∧ ns.length ≤ 60 ∧ ∀ q c, H q = none → c ≤ ns.length → Q (.ref q) (upd H q (SetO w q (fun j => decide (j ∈ ns)) c))
theorem cr_setI (hc : X.calm = true) : CallR X (.type "set") (rSetI X.K X.w) := by
  intro pins s σ H vs us Q I r h
  obtain ⟨l, ns, rfl, hl, h60, q⟩ := h
  rw [Vals.ref1 r]
  obtain ⟨its, rv, pl, hz⟩ := I.list hl
  refine set_make (I.ok.hd hc) pl.isList (by simpa using ints_of_vals rv) (by unfold scanBound; omega) fun h2 tk c f => ?_
  exact ⟨.ref _, _, I.laid (t' := tk) f.2.2 (Nat.le_refl _) (setO_new f.1), rfl, q _ c (I.hok.fresh (Nat.le_refl _)) f.2.1⟩
theorem rc_setI {H0 : Hp} {M : Addr → Prop} {L : LL} {Q : V → LL → Prop} {l : Addr} {ns : List Int} (hc : X.calm = true) (ia : At L l (.lst (ns.map V.int))) (h : ns.length ≤ 60) (k : ∀ q c, H0 q = none → c ≤ ns.length → Q (.ref q) ((q, SetO X.w q (fun j => decide (j ∈ ns)) c) :: L)) : rc X H0 M (.type "set") [.ref l] L Q :=
  rc_of (cr_setI hc) fun H z => ⟨l, ns, rfl, z.sq ia, h, fun q c n hc => ⟨_, z.new n, k q c (z.fresh n) hc⟩⟩
theorem rc_sortSet {H0 : Hp} {M : Addr → Prop} {L : LL} {Q : V → LL → Prop} {a : Addr} {ns : List Int} {c : Nat} (hc : X.calm = true) (ia : At L a (SetO X.w a (fun j => decide (j ∈ ns)) c)) (h : c < 64) (k : ∀ (ms : List Int) p, ms.Pairwise (· < ·) → (∀ j : Int, j ∈ ms ↔ j ∈ ns) → H0 p = none → Q (.ref p) ((p, .lst (ms.map V.int)) :: L)) : rc X H0 M (.builtin "sorted") [.ref a] L Q :=
  rc_of (cr_sortedSet hc) fun H z => ⟨a, _, c, rfl, z.get ia, h, fun ms p pw hm hl n => ⟨_, z.new n, k ms p pw (fun j => (hm j).trans decide_eq_true_iff) (z.fresh n)⟩⟩
theorem rc_reprI {H0 : Hp} {M : Addr → Prop} {L : LL} {Q : V → LL → Prop} {i : Int} (h : i.natAbs.log2 < 1920) (k : Q (.str (toString i)) L) : rc X H0 M (.builtin "repr") [.int i] L Q :=
  rc_of SkE.call_repr_int fun H z => ⟨i, rfl, h, L, z, k⟩
end
end Xi

/-! ## Dk -/
/-! Defs of the module called by keywords; wide sets; list(range(a, b)); comprehensions over a range. -/
namespace Xi
open PySem PySem.Spec PyProof.Rows L2
def gK1 {α : Type} : List α → List α | [a] => [a] | _ => []
def gI2 {α : Type} : List α → List α | [a, b] => [a, b] | _ => []
def gR2 {α : Type} : List α → List α | [a, b] => [b, a] | _ => []
def gR3 {α : Type} : List α → List α | [a, b, c] => [c, b, a] | _ => []
def gC3 {α : Type} : List α → List α | [a, b, c] => [b, c, a] | _ => []
/-- a def of the module called x whose arguments are told by name, g puts them in its order -/
structure DefK (P : Program) (w : World) (K : PySem.W.Frag) (mg : Str → Option Value) (base : Heap) (k : Nat) (x : Str) (ks : List Str) (g : (α : Type) → List α → List α) (sp : Sp) : Prop where
  ex : ∃ f fd ps, Fk P w K mg base CX0 k f fd ps sp ∧ mg x = some (.ref f) ∧ PySem.W.keepIn K (.ref f) = true ∧ ∀ (s : Shared) (ws : List Value), ws.length = ks.length → BindsTo s fd ⟨[], ks.zip ws⟩ (ps.zip (g Value ws))
theorem FunM.okK {P : Program} {w : World} {K : PySem.W.Frag} {mg : Str → Option Value} {base : Heap} {k : Nat} {x : Str} {st : Stmt} {sp : Sp} {ps ks : List Str} {g : (α : Type) → List α → List α} (F : FunM K mg x st)
    (b : ∀ f fd, Fun K x x st f fd → ∀ (s : Shared) (ws : List Value), ws.length = ks.length → BindsTo s fd ⟨[], ks.zip ws⟩ (ps.zip (g Value ws))) (h : ∀ f fd, Fun K x x st f fd → Fk P w K mg base CX0 k f fd ps sp) : DefK P w K mg base k x ks g sp := by
  obtain ⟨f, fd, F, hm⟩ := F.ex
  exact ⟨f, fd, ps, h f fd F, hm, F.kp, b f fd F⟩
section
variable {X : Cx} {k j : Nat} {sp : Sp} {x : Str} {p pos : Pos} {kws : List Keyword} {ks : List Str} {g : (α : Type) → List α → List α} {H0 : Hp} {M : Addr → Prop} {L : LL} {σ : L2.St} {Q : V → LL → Prop}
variable {P : Program} {w : World} {K : PySem.W.Frag} {mg : Str → Option Value} {base : Heap} {N Nv : List Str} {sc : Scope}
theorem Body.callDK (bd : Body X P w K mg base k N Nv sc) (D : DefK P w K mg base j x ks g sp) (hj : Nat.ble j k = true) (hg : sc.names.lookup x = some .globalImplicit)
    (hall : (backToKw pos (keywordEach kws X.env)).all (·.1.isSome) = true) (hks : (backToKw pos (keywordEach kws X.env)).filterMap (·.1) = ks) (hpl : ((backTo pos (starEach [] X.env)).any (·.1) || (backToKw pos (keywordEach kws X.env)).any (·.1.isNone)) = false)
    (h : kk X H0 M kws σ L fun zs L1 => zs.length = ks.length ∧ (∀ ws : List Value, Vals zs ws → Vals (g V zs) (g Value ws)) ∧ rs H0 M sp EE (g V zs) L1 Q) (hdb : (x == ("__debug__" : Str)) = false) : ke X H0 M (.Call (.Name x p) [] kws pos) σ L Q := fun H z pins s I => by
  obtain ⟨f, fd, ps, F, hm, hk, hb⟩ := D.ex
  rw [← bd.prog, ← bd.w, ← bd.K, ← bd.mg, ← bd.base] at F
  rw [← bd.mg] at hm
  rw [← bd.K] at hk
  have hr := bd.rm (Nat.le_of_ble_eq_true hj)
  refine wpAny_Call_Name_kw (ld_glob I (bd.gl hg) hm ?_ hdb)
  refine PySem.W.callWith_KW0 (first := []) (h₀ := X.base) I.ok.mod.kin hk hall (thn (h H z pos pins s I) fun ws s2 ⟨zs, H2, I2, r, L2, z2, lz, rz, q2⟩ => ⟨I2.kIn, ?_⟩) hpl
  rw [hks]
  have q3 := q2 H2 z2
  have lw : ws.length = ks.length := r.length.symm.trans lz
  refine wpAny_call (codeAny_mono (F.go X.A X.stack s2 H2 ⟨[], ks.zip ws⟩ (g Value ws) (g V zs) _ EE hr bd.gd I2.env0 (hb s2 ws lw) (rz ws r) q3) fun res s3 hq => ?_)
  rcases res with er | fl
  · exact px0 (E := EE) pins σ H2 s2 er s3 I2 hq
  · cases fl with
    | ret u => exact I2.after hq
    | next => exact hq.elim
    | brk => exact hq.elim
    | cont => exact hq.elim
theorem vk1 {a : V} {ws : List Value} (h : Vals [a] ws) : Vals (gK1 [a]) (gK1 ws) := by
  cases h with | cons r t => cases t; exact .cons r .nil
theorem vk2 {a b : V} {ws : List Value} (h : Vals [a, b] ws) : Vals (gR2 [a, b]) (gR2 ws) := by
  cases h with | cons r t => cases t with | cons r2 t => cases t; exact .cons r2 (.cons r .nil)
theorem vk3 {a b c : V} {ws : List Value} (h : Vals [a, b, c] ws) : Vals (gR3 [a, b, c]) (gR3 ws) := by
  cases h with | cons r t => cases t with | cons r2 t => cases t with | cons r3 t => cases t; exact .cons r3 (.cons r2 (.cons r .nil))
theorem vkc {a b c : V} {ws : List Value} (h : Vals [a, b, c] ws) : Vals (gC3 [a, b, c]) (gC3 ws) := by
  cases h with | cons r t => cases t with | cons r2 t => cases t with | cons r3 t => cases t; exact .cons r2 (.cons r3 (.cons r .nil))
theorem Body.callK1 {k1 : Str} (bd : Body X P w K mg base k N Nv sc) (D : DefK P w K mg base j x [k1] @gK1 sp) (hj : Nat.ble j k = true) (hg : sc.names.lookup x = some .globalImplicit)
    (hall : (backToKw pos (keywordEach kws X.env)).all (·.1.isSome) = true) (hks : (backToKw pos (keywordEach kws X.env)).filterMap (·.1) = [k1]) (hpl : ((backTo pos (starEach [] X.env)).any (·.1) || (backToKw pos (keywordEach kws X.env)).any (·.1.isNone)) = false)
    (h : kk X H0 M kws σ L fun zs L1 => ∃ a, zs = [a] ∧ rs H0 M sp EE [a] L1 Q) (hdb : (x == ("__debug__" : Str)) = false) : ke X H0 M (.Call (.Name x p) [] kws pos) σ L Q :=
  bd.callDK D hj hg hall hks hpl (fun H z => wk_mono (h H z) fun zs H2 ⟨L2, z2, a, e, q⟩ => ⟨L2, z2, by subst e; exact ⟨rfl, fun ws r => vk1 r, q⟩⟩) hdb
theorem Body.callK2 {k1 k2 : Str} (bd : Body X P w K mg base k N Nv sc) (D : DefK P w K mg base j x [k1, k2] @gR2 sp) (hj : Nat.ble j k = true) (hg : sc.names.lookup x = some .globalImplicit)
    (hall : (backToKw pos (keywordEach kws X.env)).all (·.1.isSome) = true) (hks : (backToKw pos (keywordEach kws X.env)).filterMap (·.1) = [k1, k2]) (hpl : ((backTo pos (starEach [] X.env)).any (·.1) || (backToKw pos (keywordEach kws X.env)).any (·.1.isNone)) = false)
    (h : kk X H0 M kws σ L fun zs L1 => ∃ a b, zs = [a, b] ∧ rs H0 M sp EE [b, a] L1 Q) (hdb : (x == ("__debug__" : Str)) = false) : ke X H0 M (.Call (.Name x p) [] kws pos) σ L Q :=
  bd.callDK D hj hg hall hks hpl (fun H z => wk_mono (h H z) fun zs H2 ⟨L2, z2, a, b, e, q⟩ => ⟨L2, z2, by subst e; exact ⟨rfl, fun ws r => vk2 r, q⟩⟩) hdb
theorem Body.callK3 {k1 k2 k3 : Str} (bd : Body X P w K mg base k N Nv sc) (D : DefK P w K mg base j x [k1, k2, k3] @gR3 sp) (hj : Nat.ble j k = true) (hg : sc.names.lookup x = some .globalImplicit)
    (hall : (backToKw pos (keywordEach kws X.env)).all (·.1.isSome) = true) (hks : (backToKw pos (keywordEach kws X.env)).filterMap (·.1) = [k1, k2, k3]) (hpl : ((backTo pos (starEach [] X.env)).any (·.1) || (backToKw pos (keywordEach kws X.env)).any (·.1.isNone)) = false)
    (h : kk X H0 M kws σ L fun zs L1 => ∃ a b c, zs = [a, b, c] ∧ rs H0 M sp EE [c, b, a] L1 Q) (hdb : (x == ("__debug__" : Str)) = false) : ke X H0 M (.Call (.Name x p) [] kws pos) σ L Q :=
  bd.callDK D hj hg hall hks hpl (fun H z => wk_mono (h H z) fun zs H2 ⟨L2, z2, a, b, c, e, q⟩ => ⟨L2, z2, by subst e; exact ⟨rfl, fun ws r => vk3 r, q⟩⟩) hdb
theorem Body.callKc {k1 k2 k3 : Str} (bd : Body X P w K mg base k N Nv sc) (D : DefK P w K mg base j x [k1, k2, k3] @gC3 sp) (hj : Nat.ble j k = true) (hg : sc.names.lookup x = some .globalImplicit)
    (hall : (backToKw pos (keywordEach kws X.env)).all (·.1.isSome) = true) (hks : (backToKw pos (keywordEach kws X.env)).filterMap (·.1) = [k1, k2, k3]) (hpl : ((backTo pos (starEach [] X.env)).any (·.1) || (backToKw pos (keywordEach kws X.env)).any (·.1.isNone)) = false)
    (h : kk X H0 M kws σ L fun zs L1 => ∃ a b c, zs = [a, b, c] ∧ rs H0 M sp EE [b, c, a] L1 Q) (hdb : (x == ("__debug__" : Str)) = false) : ke X H0 M (.Call (.Name x p) [] kws pos) σ L Q :=
  bd.callDK D hj hg hall hks hpl (fun H z => wk_mono (h H z) fun zs H2 ⟨L2, z2, a, b, c, e, q⟩ => ⟨L2, z2, by subst e; exact ⟨rfl, fun ws r => vkc r, q⟩⟩) hdb
/-! ### wide sets -/
theorem setR_le {w : World} {h : Heap} {a : Addr} {S : Int → Bool} {n : Nat} (R : SetR w h a S n) {zs : List Int} (hz : ∀ j, S j = true → j ∈ zs) : n ≤ zs.length := by
  obtain ⟨o, es, ep, t, ho, _, _, _, nd, mm, _, _, hn, _⟩ := R
  have l : (es.toList.map keyOf).length = n := by rw [List.length_map, Array.length_toList]; exact hn
  rw [← l]
  exact nd.length_le_of_subset fun j hj => hz j ((mm j).mpr hj)
def rSetW (K : PySem.W.Frag) (w : World) : List V → Hp → VK → Prop := fun vs H Q => ∃ (l : Addr) (ns : List Int), vs = [.ref l] ∧ SqL K H l (ns.map V.int) ∧ ns.length ≤ 1000 ∧ ∀ q c, H q = none → (∀ zs : List Int, (∀ j ∈ ns, j ∈ zs) → c ≤ zs.length) → Q (.ref q) (upd H q (SetO w q (fun j => decide (j ∈ ns)) c))
theorem cr_setW (hc : X.calm = true) : CallR X (.type "set") (rSetW X.K X.w) := by
  intro pins s σ H vs us Q I r h
  obtain ⟨l, ns, rfl, hl, h60, q⟩ := h
  rw [Vals.ref1 r]
  obtain ⟨its, rv, pl, hz⟩ := I.list hl
  refine set_make (I.ok.hd hc) pl.isList (by simpa using ints_of_vals rv) (by unfold scanBound; omega) fun h2 tk c f => ?_
  exact ⟨.ref _, _, I.laid (t' := tk) f.2.2 (Nat.le_refl _) (setO_new f.1), rfl, q _ c (I.hok.fresh (Nat.le_refl _)) fun zs hz => setR_le f.1 fun j hj => hz j (of_decide_eq_true hj)⟩
theorem rc_setW {l : Addr} {ns : List Int} (hc : X.calm = true) (ia : At L l (.lst (ns.map V.int))) (h : ns.length ≤ 1000) (k : ∀ q c, H0 q = none → (∀ zs : List Int, (∀ j ∈ ns, j ∈ zs) → c ≤ zs.length) → Q (.ref q) ((q, SetO X.w q (fun j => decide (j ∈ ns)) c) :: L)) : rc X H0 M (.type "set") [.ref l] L Q :=
  rc_of (cr_setW hc) fun H z => ⟨l, ns, rfl, z.sq ia, h, fun q c n hc => ⟨_, z.new n, k q c (z.fresh n) hc⟩⟩
/-! ### list(range(a, b)) -/
abbrev rgI2 (a b : Int) : List Int := (List.range (b - a).toNat).map fun (i : Nat) => a + (i : Int)
theorem rgV_eq2 (a b : Int) : rgV a b = (rgI2 a b).map V.int := by
  unfold rgV rgI2
  rw [List.map_map]
  exact List.map_congr_left fun i _ => rfl
theorem ke_listRg2 {a b : Expr} {p p2 pos2 : Pos} (hc : X.calm = true) (hg : Gl X "list") (hm : X.mg "list" = none) (hg2 : Gl X "range") (hm2 : X.mg "range" = none) (na : starEach [a, b] X.env = (false, eval a X.env) :: starEach [b] X.env) (nb : starEach [b] X.env = (false, eval b X.env) :: starEach [] X.env) (hp : (backTo pos2 (starEach [b] X.env)).any (·.1) = false)
    (na2 : starEach [.Call (.Name "range" p2) [a, b] [] pos2] X.env = (false, eval (.Call (.Name "range" p2) [a, b] [] pos2) X.env) :: starEach [] X.env)
    (h : ke X H0 M a σ L fun x L1 => ke X H0 M b σ L1 fun y L2 => ∃ i n : Int, x = .int i ∧ y = .int n ∧ (-1152921504606846976 ≤ i ∧ i ≤ n ∧ n ≤ i + 16777216 ∧ n ≤ 1152921504606846976) ∧ New H0 (.lst ((rgI2 i n).map V.int)) L2 Q) : ke X H0 M (.Call (.Name "list" p) [.Call (.Name "range" p2) [a, b] [] pos2] [] pos) σ L Q := fun H z =>
  we_of (pe_listRg hc hg hm (prg_2 hg2 hm2 pe_we pe_we na nb hp) na2) (we_mono (h H z) fun x H1 ⟨L1, z1, q1⟩ => we_mono (q1 H1 z1) fun y H2 ⟨L2, z2, i, n, ex, ey, bd, q⟩ => ⟨i, n, ex, ey, ⟨by omega, by omega, by omega, by omega, by omega⟩, by rw [rgV_eq2]; exact new_up z2 q⟩)
end
section
variable {α β : Type} {X : Cx} {elt tg iter : Expr} {scope : Scope} {pos : Pos} {H0 : Hp} {M : Addr → Prop} {L : LL} {σ : L2.St} {Q : V → LL → Prop} {P : Program} {w : World} {K : PySem.W.Frag} {mg : Str → Option Value} {base : Heap} {k : Nat} {N Nv Nw : List Str} {sc : Scope}
theorem take_range (n i : Nat) (h : i < n) : (List.range n).take (i + 1) = (List.range n).take i ++ [i] := take_snoc (by rw [List.getElem?_range h])
/-- [f(i) for i in range(n)] -/
theorem Body.klR {a : Expr} {p pr : Pos} (bd : Body X P w K mg base k N Nv sc) (ns : Ns X N Nw) (own : List (Str × Nat)) (Nb No : List Str) (f : Nat → V) (vis : ∀ x ∈ Nb, (relS scope sc).names.lookup x = some .local ∨ (relS scope sc).names.lookup x = some .cell ∨ (relS scope sc).names.lookup x = some .free) (pl : ∀ x ∈ Nb, (x == ("__debug__" : Str)) = false ∧ (x == ("__classdict__" : Str)) = false) (lc : ∀ x ∈ No, (relS scope sc).names.lookup x = some .local)
    (hg : Gl X "range") (hm : X.mg "range" = none) (hse : starEach [a] X.env = [(false, eval a X.env)])
    (h : ke X H0 M a σ L fun w1 L1 => ∃ n : Int, w1 = .int n ∧ n ≤ 1000 ∧ -1000 ≤ n ∧
      (∀ i : Nat, (i : Int) < n → ∀ D acc, H0 D = none → ∀ B, Body B P w K mg base k N Nb (relS scope sc) → Ns B N No → kg B H0 M tg (.int i) (wipe σ (own.map (·.2))) ((D, acc) :: L1) fun σ2 L2 => wipe σ2 (own.map (·.2)) = wipe σ (own.map (·.2)) ∧
        ∀ B, Body B P w K mg base k N Nb (relS scope sc) → ke B H0 M elt σ2 L2 fun y L4 => y = f i ∧ Sub ((D, acc) :: L1) L4) ∧
      ∀ D, H0 D = none → Q (.ref D) ((D, .lst ((List.range n.toNat).map f)) :: L1)) :
    kLc X H0 M elt tg (.Call (.Name "range" p) [a] [] pr) [] scope own σ L Q := by
  refine Body.kl bd ns own Nb No vis pl lc (ki_range1 hg hm hse fun H z => we_mono (h H z) fun v H1 ⟨L1, z1, n, ev, hl, hl2, st, en⟩ => ⟨L1, z1, n, ev, by omega, by omega, fun J wk D nD => ?_⟩)
  refine ⟨_, _, _, fun i L => L = (D, .lst (((List.range n.toNat).take i).map f)) :: L1, wk, rfl, fun _ _ _ _ => trivial, fun i x L L' hi e hx B bB nB => ?_, fun L e => ?_⟩
  · obtain ⟨e2, hx⟩ := hx
    subst e2 e hx
    have key := st i (by omega) D (.lst (((List.range n.toNat).take i).map f)) nD B bB nB
    refine fun H z pins s u I r => thn (key H z pins s u I r) fun _ s' ⟨σ', H', I', L2, z2, e4, q⟩ => ⟨σ', H', I', L2, z2, e4, fun B2 bB2 => ?_⟩
    show kf _ _ _ [] _ _ _
    refine kf_nil ?_
    rw [if_pos rfl]
    intro B3 bB3
    refine fun H z => we_mono (q B3 bB3 H z) fun y2 H2 w => ?_
    obtain ⟨L4, z4, e7, e8⟩ := w
    subst e7
    refine ⟨_, z4.sub e8, _, _, .here, ?_, _, .refl _, ?_⟩
    · rw [List.length_map, List.length_take]
      exact Nat.lt_of_le_of_lt (Nat.le_trans (Nat.min_le_left _ _) (show i ≤ 1000 by omega)) (by decide)
    · dsimp only
      rw [take_range _ _ hi, List.map_append]
      rfl
  · subst e
    have := en D nD
    rw [show (List.range n.toNat).take n.toNat = List.range n.toNat from List.take_of_length_le (by rw [List.length_range]; exact Nat.le_refl _)]
    exact this
theorem Body.lcR {a : Expr} {p pr : Pos} (bd : Body X P w K mg base k N Nv sc) (ns : Ns X N Nw) (own : List (Str × Nat)) (Nb No : List Str) (f : Nat → V) (ok : BlkOk N sc scope own) (vis : ∀ x ∈ Nb, (relS scope sc).names.lookup x = some .local ∨ (relS scope sc).names.lookup x = some .cell ∨ (relS scope sc).names.lookup x = some .free) (pl : ∀ x ∈ Nb, (x == ("__debug__" : Str)) = false ∧ (x == ("__classdict__" : Str)) = false) (lc : ∀ x ∈ No, (relS scope sc).names.lookup x = some .local)
    (hg : Gl X "range") (hm : X.mg "range" = none) (hse : starEach [a] X.env = [(false, eval a X.env)]) (hs : ∀ x, foldedSetIterable (.Call (.Name "range" p) [a] [] pr) X.env x = pure x)
    (h : ke X H0 M a σ L fun w1 L1 => ∃ n : Int, w1 = .int n ∧ n ≤ 1000 ∧ -1000 ≤ n ∧
      (∀ i : Nat, (i : Int) < n → ∀ D acc, H0 D = none → ∀ B, Body B P w K mg base k N Nb (relS scope sc) → Ns B N No → kg B H0 M tg (.int i) (wipe σ (own.map (·.2))) ((D, acc) :: L1) fun σ2 L2 => wipe σ2 (own.map (·.2)) = wipe σ (own.map (·.2)) ∧
        ∀ B, Body B P w K mg base k N Nb (relS scope sc) → ke B H0 M elt σ2 L2 fun y L4 => y = f i ∧ Sub ((D, acc) :: L1) L4) ∧
      ∀ D, H0 D = none → Q (.ref D) ((D, .lst ((List.range n.toNat).map f)) :: L1)) :
    ke X H0 M (.ListComp elt [⟨tg, .Call (.Name "range" p) [a] [] pr, [], 0⟩] scope pos) σ L Q :=
  ke_kl bd.calm (by rw [ns.eq]; exact ns.nd) (by rw [ns.eq, bd.scope]; exact ok) hs (Body.klR bd ns own Nb No f vis pl lc hg hm hse h)
/-- [made(i) for i in range(n)], nothing that was changes -/
theorem Body.klMRs {a : Expr} {p pr : Pos} (v : β → V) (h : β → Addr × HO) (T : Nat → β → Prop) (bd : Body X P w K mg base k N Nv sc) (ns : Ns X N Nw) (own : List (Str × Nat)) (Nb No : List Str) (vis : ∀ x ∈ Nb, (relS scope sc).names.lookup x = some .local ∨ (relS scope sc).names.lookup x = some .cell ∨ (relS scope sc).names.lookup x = some .free) (pl : ∀ x ∈ Nb, (x == ("__debug__" : Str)) = false ∧ (x == ("__classdict__" : Str)) = false) (lc : ∀ x ∈ No, (relS scope sc).names.lookup x = some .local)
    (hg : Gl X "range") (hm : X.mg "range" = none) (hse : starEach [a] X.env = [(false, eval a X.env)])
    (hk : ke X H0 M a σ L fun w1 L1 => ∃ (n : Int), w1 = .int n ∧ n ≤ 1000 ∧ 0 ≤ n ∧
      (∀ (i : Nat), (i : Int) < n → ∀ L0, Lift L1 L0 → ∀ B, Body B P w K mg base k N Nb (relS scope sc) → Ns B N No → kg B H0 M tg (.int i) (wipe σ (own.map (·.2))) L0 fun σ2 L3 => wipe σ2 (own.map (·.2)) = wipe σ (own.map (·.2)) ∧
        ∀ B, Body B P w K mg base k N Nb (relS scope sc) → ke B H0 M elt σ2 L3 fun y L4 => ∃ (b : β), y = v b ∧ T i b ∧ H0 (h b).1 = none ∧ Sub (h b :: L0) L4) ∧
      ∀ D (ys : List β), H0 D = none → F2 T (List.range n.toNat) ys → (∀ y ∈ ys, H0 (h y).1 = none) → Q (.ref D) ((D, .lst (ys.map v)) :: (L1 ++ ys.map h))) :
    kLc X H0 M elt tg (.Call (.Name "range" p) [a] [] pr) [] scope own σ L Q := by
  refine Body.kl bd ns own Nb No vis pl lc (ki_range1 hg hm hse fun H z => we_mono (hk H z) fun w1 H1 ⟨L1, z1, n, ev, hl, hn, st, en⟩ => ⟨L1, z1, n, ev, by omega, by omega, fun J wk D nD => ?_⟩)
  refine ⟨_, _, _, fun i L => ∃ (ys : List β), F2 T ((List.range n.toNat).take i) ys ∧ (∀ y ∈ ys, H0 (h y).1 = none) ∧ L = (D, .lst (ys.map v)) :: (L1 ++ ys.map h), wk, ⟨[], .nil, (fun y hy => nomatch hy), by rw [List.map_nil, List.map_nil, List.append_nil]⟩, fun _ _ _ _ => trivial, fun i x L L' hi ⟨ys, f2, nf, e⟩ hx B bB nB => ?_, fun L ⟨ys, f2, nf, e⟩ => ?_⟩
  · obtain ⟨e2, hx⟩ := hx
    subst e2
    subst e
    subst hx
    have key := st i (by omega) ((D, .lst (ys.map v)) :: (L1 ++ ys.map h)) (fun a o h => .there (.app_l h)) B bB nB
    refine fun H z pins s u I r => thn (key H z pins s u I r) fun _ s' ⟨σ', H', I', L3, z3, e4, q⟩ => ⟨σ', H', I', L3, z3, e4, fun B2 bB2 => ?_⟩
    show kf _ _ _ [] _ _ _
    refine kf_nil ?_
    rw [if_pos rfl]
    intro B3 bB3
    refine fun H z => we_mono (q B3 bB3 H z) fun y2 H2 w => ?_
    obtain ⟨L4, z4, b, e7, tb, nb, sb⟩ := w
    subst e7
    refine ⟨_, (z4.sub sb).perm (L' := (D, .lst (ys.map v)) :: (L1 ++ ys.map h ++ [h b])) ?_, _, _, .here, ?_, _, .refl _, ?_⟩
    · refine List.Perm.trans ?_ (List.Perm.swap _ _ _)
      exact List.Perm.cons _ (List.perm_append_comm (l₂ := [h b]))
    · rw [List.length_map, ← f2.len, List.length_take]
      exact Nat.lt_of_le_of_lt (Nat.le_trans (Nat.min_le_left _ _) (show i ≤ 1000 by omega)) (by decide)
    · refine ⟨ys ++ [b], ?_, ?_, ?_⟩
      · rw [take_range _ _ hi]; exact f2.snoc tb
      · intro y' hy'
        rcases List.mem_append.mp hy' with e | e
        · exact nf y' e
        · rw [List.mem_singleton.mp e]; exact nb
      · rw [List.map_append, List.map_append, List.append_assoc]
        rfl
  · subst e
    rw [show (List.range n.toNat).take n.toNat = List.range n.toNat from List.take_of_length_le (by rw [List.length_range]; exact Nat.le_refl _)] at f2
    exact en D ys nD f2 nf
theorem Body.lcMRs {a : Expr} {p pr : Pos} (v : β → V) (h : β → Addr × HO) (T : Nat → β → Prop) (bd : Body X P w K mg base k N Nv sc) (ns : Ns X N Nw) (own : List (Str × Nat)) (Nb No : List Str) (ok : BlkOk N sc scope own) (vis : ∀ x ∈ Nb, (relS scope sc).names.lookup x = some .local ∨ (relS scope sc).names.lookup x = some .cell ∨ (relS scope sc).names.lookup x = some .free) (pl : ∀ x ∈ Nb, (x == ("__debug__" : Str)) = false ∧ (x == ("__classdict__" : Str)) = false) (lc : ∀ x ∈ No, (relS scope sc).names.lookup x = some .local)
    (hg : Gl X "range") (hm : X.mg "range" = none) (hse : starEach [a] X.env = [(false, eval a X.env)]) (hs : ∀ x, foldedSetIterable (.Call (.Name "range" p) [a] [] pr) X.env x = pure x)
    (hk : ke X H0 M a σ L fun w1 L1 => ∃ (n : Int), w1 = .int n ∧ n ≤ 1000 ∧ 0 ≤ n ∧
      (∀ (i : Nat), (i : Int) < n → ∀ L0, Lift L1 L0 → ∀ B, Body B P w K mg base k N Nb (relS scope sc) → Ns B N No → kg B H0 M tg (.int i) (wipe σ (own.map (·.2))) L0 fun σ2 L3 => wipe σ2 (own.map (·.2)) = wipe σ (own.map (·.2)) ∧
        ∀ B, Body B P w K mg base k N Nb (relS scope sc) → ke B H0 M elt σ2 L3 fun y L4 => ∃ (b : β), y = v b ∧ T i b ∧ H0 (h b).1 = none ∧ Sub (h b :: L0) L4) ∧
      ∀ D (ys : List β), H0 D = none → F2 T (List.range n.toNat) ys → (∀ y ∈ ys, H0 (h y).1 = none) → Q (.ref D) ((D, .lst (ys.map v)) :: (L1 ++ ys.map h))) :
    ke X H0 M (.ListComp elt [⟨tg, .Call (.Name "range" p) [a] [] pr, [], 0⟩] scope pos) σ L Q :=
  ke_kl bd.calm (by rw [ns.eq]; exact ns.nd) (by rw [ns.eq, bd.scope]; exact ok) hs (Body.klMRs v h T bd ns own Nb No vis pl lc hg hm hse hk)
end
/-! ### sorted lists -/
theorem sorted_uniq : ∀ {xs ys : List Int}, xs.Pairwise (· < ·) → ys.Pairwise (· < ·) → (∀ j, j ∈ xs ↔ j ∈ ys) → xs = ys
  | [], [], _, _, _ => rfl
  | [], y :: _, _, _, h => absurd ((h y).mpr List.mem_cons_self) (by simp)
  | x :: _, [], _, _, h => absurd ((h x).mp List.mem_cons_self) (by simp)
  | x :: xs, y :: ys, h1, h2, h => by
    obtain ⟨a1, a2⟩ := List.pairwise_cons.mp h1
    obtain ⟨b1, b2⟩ := List.pairwise_cons.mp h2
    have e : x = y := by
      have p := (h x).mp List.mem_cons_self
      have q := (h y).mpr List.mem_cons_self
      rcases List.mem_cons.mp p with e | p
      · exact e
      · rcases List.mem_cons.mp q with e | q
        · exact e.symm
        · have := a1 y q
          have := b1 x p
          omega
    subst e
    rw [sorted_uniq a2 b2 fun j => ?_]
    constructor
    · intro m
      rcases List.mem_cons.mp ((h j).mp (List.mem_cons_of_mem _ m)) with e | q
      · subst e; exact absurd (a1 j m) (Int.lt_irrefl _)
      · exact q
    · intro m
      rcases List.mem_cons.mp ((h j).mpr (List.mem_cons_of_mem _ m)) with e | q
      · subst e; exact absurd (b1 j m) (Int.lt_irrefl _)
      · exact q
theorem range_sorted {a d : Int} (hd : 0 < d) (n : Nat) : ((List.range n).map fun (i : Nat) => a + d * (i : Int)).Pairwise (· < ·) := by
  rw [List.pairwise_map]
  refine List.pairwise_lt_range.imp fun {i j} h => ?_
  have := Int.mul_lt_mul_of_pos_left (show (i : Int) < j by omega) hd
  omega
end Xi

/-! ## Exn -/
/-! Exceptions: defs that raise, calls of them, try .. except C as e: return f(e), isinstance of what is caught. -/
namespace Xi
open PySem PySem.Spec PyProof.Rows L2 StX

abbrev veB : List Value := [.type "ValueError", .type "Exception", .type "BaseException", .type "object"]
/-- an exception of the class C comes out; what stood, stands -/
def RaiP (H : Hp) (E : XK) (C : Addr) : Prop := ∀ H', Ext H H' → E (.ref C) none H'
theorem RaiP.e0 {H0 H : Hp} {E : XK} {C : Addr} {L : LL} (k : RaiP H0 E C) (h : Hs H0 (fun _ => False) L H) : E (.ref C) none H := k H h.ext0
/-- a class of the module called x -/
structure ClsM (K : PySem.W.Frag) (mg : Str → Option Value) (x : Str) (C : Addr) : Prop where
  gm : mg x = some (.ref C)
  kp : PySem.W.keepIn K (.ref C) = true
/-- a class of exceptions without __init__ -/
structure RaiC (K : PySem.W.Frag) (C : Addr) : Prop where
  q : PySem.W.excIn K C veB "ValueError.__new__" = true
  sb : PySem.W.subIn K (.ref C) (.type "BaseException") = some true
  ty : PySem.W.typeIn K (.ref C) = some (.type "type")

/-! ### contexts -/
section
variable {X : Cx} {P : Program} {w : World} {K : PySem.W.Frag} {mg : Str → Option Value} {base : Heap} {k j : Nat} {N Nv : List Str} {sc : Scope}
theorem Body.tr (b : Body X P w K mg base k N Nv sc) {pn : List (Addr × Obj)} {xe : Value → Shared → Prop} (own : PassesOwn (model X.prog X.w) X.A X.env xe) : Body (X.tr pn xe) P w K mg base k N Nv sc :=
  ⟨b.prog, b.w, b.K, b.mg, b.base, b.room, b.gd, ⟨b.nm.eq, b.nm.vis, b.nm.plain⟩, b.scope, b.calm, own⟩
theorem Body.nx (b : Body X P w K mg base k N Nv sc) : Body X.nox P w K mg base k N Nv sc :=
  ⟨b.prog, b.w, b.K, b.mg, b.base, b.room, b.gd, ⟨b.nm.eq, b.nm.vis, b.nm.plain⟩, b.scope, b.calm, PassesOwn.never⟩
theorem Ns.tr (n : Ns X N Nv) {pn : List (Addr × Obj)} {xe : Value → Shared → Prop} : Ns (X.tr pn xe) N Nv := ⟨n.eq, n.nd, n.loc⟩
theorem Ns.nx (n : Ns X N Nv) : Ns X.nox N Nv := ⟨n.eq, n.nd, n.loc⟩
end
/-- the frame is the context's own -/
structure Fr1 (X : Cx) : Prop where
  st : X.stack = X.env :: X.outer
  fr : X.env.frame = some X.env.locals
  lo : ∀ n, X.env.kindOf n = X.env.scope.names.lookup n

/-- a def that may let an exception out, by its body -/
theorem fk_bodyX {P : Program} {w : World} {K : PySem.W.Frag} {mg : Str → Option Value} {base : Heap} {k : Nat} {f : Addr} {fd : FuncData} {x qual : Str} {st : Stmt} {ss : List Stmt} {N Nv ps : List Str} {sp : Sp} (F : Fun K x qual st f fd) (S : FnScope N ps (defScope st))
    (l : ∀ x ∈ Nv, (defScope st).names.lookup x = some .local ∨ (defScope st).names.lookup x = some .cell) (p : ∀ x ∈ Nv, (x == ("__debug__" : Str)) = false ∧ (x == ("__classdict__" : Str)) = false) (eb : defBody st = ss)
    (len : ∀ vs H Q E, sp vs H Q E → vs.length = ps.length)
    (hb : ∀ (X : Cx), Body X P w K mg base k N Nv (defScope st) → Ns X N Nv → ∀ (H : Hp) (vs : List V) (Q : VK) (E : XK), L2N.Takes X (fun cls d _ H' => E cls d H') → sp vs H Q E → wb X ss { nx := fun _ H' => Q .non H', rt := Q } (start N vs) H) : Fk P w K mg base (L2N.CX P w) (k + 1) f fd ps sp :=
  fk_of F S len fun cdv A out s H vs Q E room gd q => by
    rw [eb]
    have bd : Body (cxOf (L2N.CX P w) P w K mg base N qual (defScope st) f cdv A out s H E) P w K mg base k N Nv (defScope st) := ⟨rfl, rfl, rfl, rfl, rfl, room, gd, ⟨rfl, fun x m => (l x m).elim .inl fun z => .inr (.inl z), p⟩, rfl, rfl, passes_of rfl⟩
    exact hb _ bd ⟨rfl, S.nd, fun x m => ⟨l x m, .inl rfl⟩⟩ H vs Q E (L2N.takes_of rfl rfl rfl rfl) q
/-- a def that lets nothing out, its frame told -/
theorem fk_bodyT {P : Program} {w : World} {K : PySem.W.Frag} {mg : Str → Option Value} {base : Heap} {k : Nat} {f : Addr} {fd : FuncData} {x qual : Str} {st : Stmt} {ss : List Stmt} {N Nv ps : List Str} {sp : Sp} (F : Fun K x qual st f fd) (S : FnScope N ps (defScope st))
    (l : ∀ x ∈ Nv, (defScope st).names.lookup x = some .local ∨ (defScope st).names.lookup x = some .cell) (p : ∀ x ∈ Nv, (x == ("__debug__" : Str)) = false ∧ (x == ("__classdict__" : Str)) = false) (eb : defBody st = ss)
    (len : ∀ vs H Q E, sp vs H Q E → vs.length = ps.length)
    (hb : ∀ (X : Cx), Body X P w K mg base k N Nv (defScope st) → Ns X N Nv → Fr1 X → ∀ (H : Hp) (vs : List V) (Q : VK) (E : XK), sp vs H Q E → wb X ss { nx := fun _ H' => Q .non H', rt := Q } (start N vs) H) : Fk P w K mg base CX0 (k + 1) f fd ps sp :=
  fk_of F S len fun cdv A out s H vs Q E room gd q => by
    rw [eb]
    have bd : Body (cxOf CX0 P w K mg base N qual (defScope st) f cdv A out s H E).nox P w K mg base k N Nv (defScope st) := ⟨rfl, rfl, rfl, rfl, rfl, room, gd, ⟨rfl, fun x m => (l x m).elim .inl fun z => .inr (.inl z), p⟩, rfl, rfl, PassesOwn.never⟩
    exact wb_of (PSs.nox pb_wb) (hb _ bd ⟨rfl, S.nd, fun x m => ⟨l x m, .inl rfl⟩⟩ ⟨rfl, rfl, fun _ => rfl⟩ H vs Q E q)

section
variable {P : Program} {w : World} {K : PySem.W.Frag} {mg : Str → Option Value} {base : Heap} {k : Nat} {x m qual : Str} {st : Stmt} {sp : Sp} {ps ks : List Str} {g : (α : Type) → List α → List α} {Cs : Addr → Prop}
theorem FunM.okX (F : FunM K mg x st) (b : ∀ f fd, Fun K x x st f fd → Binds K fd ps []) (h : ∀ f fd, Fun K x x st f fd → Fk P w K mg base (L2N.CX P w) k f fd ps sp) : DefT P w K mg base (L2N.CX P w) k x sp := by
  obtain ⟨f, fd, F, hm⟩ := F.ex
  exact ⟨f, fd, ps, h f fd F, hm, F.kp, b f fd F⟩
theorem FunC.okX (F : FunC K Cs m qual st) (hc : ∀ C, Cs C → Cls K C) (b : ∀ f fd, Fun K m qual st f fd → Binds K fd ps []) (h : ∀ f fd, Fun K m qual st f fd → Fk P w K mg base (L2N.CX P w) k f fd ps sp) : MethT P w K mg base (L2N.CX P w) k Cs m sp := by
  obtain ⟨f, fd, F, hm⟩ := F.ex
  exact ⟨f, fd, ps, h f fd F, fun C c => ⟨hc C c, hm C c⟩, b f fd F⟩
/-- .. called by keywords -/
structure DefKX (P : Program) (w : World) (K : PySem.W.Frag) (mg : Str → Option Value) (base : Heap) (k : Nat) (x : Str) (ks : List Str) (g : (α : Type) → List α → List α) (sp : Sp) : Prop where
  ex : ∃ f fd ps, Fk P w K mg base (L2N.CX P w) k f fd ps sp ∧ mg x = some (.ref f) ∧ PySem.W.keepIn K (.ref f) = true ∧ ∀ (s : Shared) (ws : List Value), ws.length = ks.length → BindsTo s fd ⟨[], ks.zip ws⟩ (ps.zip (g Value ws))
theorem FunM.okKX (F : FunM K mg x st)
    (b : ∀ f fd, Fun K x x st f fd → ∀ (s : Shared) (ws : List Value), ws.length = ks.length → BindsTo s fd ⟨[], ks.zip ws⟩ (ps.zip (g Value ws))) (h : ∀ f fd, Fun K x x st f fd → Fk P w K mg base (L2N.CX P w) k f fd ps sp) : DefKX P w K mg base k x ks g sp := by
  obtain ⟨f, fd, F, hm⟩ := F.ex
  exact ⟨f, fd, ps, h f fd F, hm, F.kp, b f fd F⟩
end

/-! ### raise, calls that raise -/
section
variable {X : Cx} {P : Program} {w : World} {K : PySem.W.Frag} {mg : Str → Option Value} {base : Heap} {k j : Nat} {N Nv : List Str} {sc : Scope} {sp : Sp} {x m : Str} {C : Addr} {Cs : Addr → Prop} {W : WX} {E : XK}
variable {p p2 pos pos' apos : Pos} {e o : Expr} {es : List Expr} {kws : List Keyword} {ks' : List Str} {g : (α : Type) → List α → List α} {H0 : Hp} {M : Addr → Prop} {L : LL} {σ : L2.St} {Q : V → LL → Prop} {nx : L2.St → LL → Prop} {rt : V → LL → Prop} {bk ct : L2.St → LL → Prop}
theorem ks_raise {t : Str} {i : Nat} (bd : Body X P w K mg base k N Nv sc) (tk : L2N.Takes X W) (c : ClsM K mg x C) (r : RaiC K C) (hg : sc.names.lookup x = some .globalImplicit) (h : ∀ H, Hs H0 M L H → W (.ref C) none σ H) (hdb : (x == ("__debug__" : Str)) = false := by decide) :
    ks X H0 M (.Raise (some (.Call (.Name x p) [.Constant (.str t) i p2] [] pos)) none pos') nx rt bk ct σ L := by
  have q : PySem.W.excIn X.K C veB "ValueError.__new__" = true := by rw [bd.K]; exact r.q
  have kp : PySem.W.keepIn X.K (.ref C) = true := by rw [bd.K]; exact c.kp
  have s1 : PySem.W.subIn X.K (.ref C) (.type "BaseException") = some true := by rw [bd.K]; exact r.sb
  have s2 : PySem.W.typeIn X.K (.ref C) = some (.type "type") := by rw [bd.K]; exact r.ty
  exact ks_of (L2N.ps_raise bd.calm tk (L2N.pmk_own PySem.F.excBase_ValueError q (bd.no c.gm) kp (raises_own s1 s2) (bd.gl hg) hdb)) fun H z => h H z
theorem px_of (tk : L2N.Takes X W) (hW : ∀ cls d σ H, E cls d H → W cls d σ H) : Passes (L2N.CX X.prog X.w) X E := L2N.passes_call tk hW
theorem DefT.cx {CX : CXT} (D : DefT P w K mg base (L2N.CX P w) j x sp) (bd : Body X P w K mg base k N Nv sc) : DefT X.prog X.w X.K X.mg X.base (L2N.CX X.prog X.w) j x sp := by rw [bd.prog, bd.w, bd.K, bd.mg, bd.base]; exact D
/-- the caller's wish where a callee raises -/
abbrev EW (H0 : Hp) (M : Addr → Prop) (W : WX) (σ : L2.St) : XK := fun cls d H => W cls d σ H
/-- W does not read the slots -/
def Flat (W : WX) : Prop := ∀ cls d σ σ' H, W cls d σ H → W cls d σ' H
theorem Body.callX (bd : Body X P w K mg base k N Nv sc) (tk : L2N.Takes X fun cls d _ H => E cls d H) (D : DefT P w K mg base (L2N.CX P w) j x sp) (hj : Nat.ble j k = true) (hg : sc.names.lookup x = some .globalImplicit) (he : starEach (e :: es) X.env = (false, eval e X.env) :: starEach es X.env) (hpl : (backTo pos (starEach es X.env)).any (·.1) = false)
    (h : ka X H0 M (e :: es) σ L fun vs L1 => rs H0 M sp E vs L1 Q) (hdb : (x == ("__debug__" : Str)) = false) : ke X H0 M (.Call (.Name x p) (e :: es) [] pos) σ L Q := by
  have D' : DefT X.prog X.w X.K X.mg X.base (L2N.CX X.prog X.w) j x sp := by rw [bd.prog, bd.w, bd.K, bd.mg, bd.base]; exact D
  exact ke_call D' (bd.rm (Nat.le_of_ble_eq_true hj)) bd.gd (L2N.passes_call tk fun _ _ _ _ q => q) (bd.gl hg) he hpl h hdb
theorem Body.callKX (bd : Body X P w K mg base k N Nv sc) (tk : L2N.Takes X fun cls d _ H => E cls d H) (D : DefKX P w K mg base j x ks' g sp) (hj : Nat.ble j k = true) (hg : sc.names.lookup x = some .globalImplicit)
    (hall : (backToKw pos (keywordEach kws X.env)).all (·.1.isSome) = true) (hks : (backToKw pos (keywordEach kws X.env)).filterMap (·.1) = ks') (hpl : ((backTo pos (starEach [] X.env)).any (·.1) || (backToKw pos (keywordEach kws X.env)).any (·.1.isNone)) = false)
    (h : kk X H0 M kws σ L fun zs L1 => zs.length = ks'.length ∧ (∀ ws : List Value, Vals zs ws → Vals (g V zs) (g Value ws)) ∧ rs H0 M sp E (g V zs) L1 Q) (hdb : (x == ("__debug__" : Str)) = false) : ke X H0 M (.Call (.Name x p) [] kws pos) σ L Q := fun H z pins s I => by
  obtain ⟨f, fd, ps, F, hm, hk, hb⟩ := D.ex
  rw [← bd.prog, ← bd.w, ← bd.K, ← bd.mg, ← bd.base] at F
  rw [← bd.mg] at hm
  rw [← bd.K] at hk
  have hr := bd.rm (Nat.le_of_ble_eq_true hj)
  refine wpAny_Call_Name_kw (ld_glob I (bd.gl hg) hm ?_ hdb)
  refine PySem.W.callWith_KW0 (first := []) (h₀ := X.base) I.ok.mod.kin hk hall (thn (h H z pos pins s I) fun ws s2 ⟨zs, H2, I2, r, L2, z2, lz, rz, q2⟩ => ⟨I2.kIn, ?_⟩) hpl
  rw [hks]
  have q3 := q2 H2 z2
  have lw : ws.length = ks'.length := r.length.symm.trans lz
  refine wpAny_call (codeAny_mono (F.go X.A X.stack s2 H2 ⟨[], ks'.zip ws⟩ (g Value ws) (g V zs) _ E hr bd.gd I2.env0 (hb s2 ws lw) (rz ws r) q3) fun res s3 hq => ?_)
  rcases res with er | fl
  · exact L2N.passes_call tk (E := E) (fun _ _ _ _ q => q) pins σ H2 s2 er s3 I2 hq
  · cases fl with
    | ret u => exact I2.after hq
    | next => exact hq.elim
    | brk => exact hq.elim
    | cont => exact hq.elim
theorem Body.callKX2 {k1 k2 : Str} (bd : Body X P w K mg base k N Nv sc) (tk : L2N.Takes X fun cls d _ H => E cls d H) (D : DefKX P w K mg base j x [k1, k2] @gR2 sp) (hj : Nat.ble j k = true) (hg : sc.names.lookup x = some .globalImplicit)
    (hall : (backToKw pos (keywordEach kws X.env)).all (·.1.isSome) = true) (hks : (backToKw pos (keywordEach kws X.env)).filterMap (·.1) = [k1, k2]) (hpl : ((backTo pos (starEach [] X.env)).any (·.1) || (backToKw pos (keywordEach kws X.env)).any (·.1.isNone)) = false)
    (h : kk X H0 M kws σ L fun zs L1 => ∃ a b, zs = [a, b] ∧ rs H0 M sp E [b, a] L1 Q) (hdb : (x == ("__debug__" : Str)) = false) : ke X H0 M (.Call (.Name x p) [] kws pos) σ L Q :=
  bd.callKX tk D hj hg hall hks hpl (fun H z => wk_mono (h H z) fun zs H2 ⟨L2, z2, a, b, e, q⟩ => ⟨L2, z2, by subst e; exact ⟨rfl, fun ws r => vk2 r, q⟩⟩) hdb
theorem Body.callKX3 {k1 k2 k3 : Str} (bd : Body X P w K mg base k N Nv sc) (tk : L2N.Takes X fun cls d _ H => E cls d H) (D : DefKX P w K mg base j x [k1, k2, k3] @gR3 sp) (hj : Nat.ble j k = true) (hg : sc.names.lookup x = some .globalImplicit)
    (hall : (backToKw pos (keywordEach kws X.env)).all (·.1.isSome) = true) (hks : (backToKw pos (keywordEach kws X.env)).filterMap (·.1) = [k1, k2, k3]) (hpl : ((backTo pos (starEach [] X.env)).any (·.1) || (backToKw pos (keywordEach kws X.env)).any (·.1.isNone)) = false)
    (h : kk X H0 M kws σ L fun zs L1 => ∃ a b c, zs = [a, b, c] ∧ rs H0 M sp E [c, b, a] L1 Q) (hdb : (x == ("__debug__" : Str)) = false) : ke X H0 M (.Call (.Name x p) [] kws pos) σ L Q :=
  bd.callKX tk D hj hg hall hks hpl (fun H z => wk_mono (h H z) fun zs H2 ⟨L2, z2, a, b, c, e, q⟩ => ⟨L2, z2, by subst e; exact ⟨rfl, fun ws r => vk3 r, q⟩⟩) hdb
end

/-! ### try: what is raised is caught -/
section
variable {X : Cx} {P : Program} {w : World} {K : PySem.W.Frag} {mg : Str → Option Value} {base : Heap} {k j : Nat} {N Nv : List Str} {sc : Scope} {x n : Str} {c : Value} {i : Nat} {body suite : List Stmt} {b₀ : Stmt} {h₀ : ExceptHandler} {hs : List ExceptHandler} {np pos pos' : Pos}
variable {H0 : Hp} {M : Addr → Prop} {L : LL} {σ : L2.St} {nx : L2.St → LL → Prop} {rt : V → LL → Prop} {bk ct : L2.St → LL → Prop}
theorem ks_try (Pst : Value → Option Addr → LL → Prop) (bd : Body X P w K mg base k N Nv sc) (ns : Ns X N Nv) (fr : Fr1 X) (hi : N[i]? = some n) (hl : sc.names.lookup n = some .local) (hc : mg x = some c) (hg : sc.names.lookup x = some .globalImplicit)
    (hb : ∀ X' : Cx, Body X' P w K mg base k N Nv sc → Ns X' N Nv → L2N.Takes X' (fun cls d _ H' => ∃ L', Hs H0 M L' H' ∧ Pst cls d L') → kb X' H0 M body nx rt bk ct σ L)
    (he : ∀ (cls : Value) (d : Option Addr) (σ' : L2.St) (L' : LL), Pst cls d L' → PySem.W.exmOne K cls c = some true ∧ ∀ (a : Addr) (oe : Obj) (pn : List (Addr × Obj)), L2N.Zn cls d oe → (∃ vs, oe.data = .fields vs) →
      kb (X.suite a ((a, oe) :: pn)) H0 M (b₀ :: suite) (fun σ2 L2 => nx (σ2.set i none) L2) rt (fun σ2 L2 => bk (σ2.set i none) L2) (fun σ2 L2 => ct (σ2.set i none) L2) (σ'.set i (some (.ref a))) L')
    (hdb : (x == ("__debug__" : Str)) = false := by decide) :
    ks X H0 M (.Try body [.ExceptHandler (some (.Name x np)) (some n) (b₀ :: suite) pos'] [] [] pos) nx rt bk ct σ L := by
  have hN : X.N.Nodup := by rw [ns.eq]; exact ns.nd
  have hi' : X.N[i]? = some n := by rw [ns.eq]; exact hi
  have hln : X.env.kindOf n = some .local := by rw [fr.lo, bd.scope]; exact hl
  have nmC : Names X x c := ⟨bd.gl hg, hdb, .inl (bd.no hc)⟩
  have tk0 : L2N.Takes X (fun _ _ _ _ => False) := fun u s' ⟨_, _, _, _, _, _, _, _, _, _, _, _, _, _, _, _, f⟩ => f.elim
  refine ks_of (L2N.ps_try_as (tb := fun W D σ H => ∀ pn xe, L2N.Takes (X.tr pn xe) W → PassesOwn (model X.prog X.w) X.A X.env xe → wb (X.tr pn xe) body D σ H)
    (ts := fun a cls d D σ H => ∀ oe pn, L2N.Zn cls d oe → (∃ vs, oe.data = .fields vs) → wb (X.suite a ((a, oe) :: pn)) (b₀ :: suite) D σ H) (Wout := fun _ _ _ _ => False) fr.st fr.fr hN hi' hln nmC tk0
    (fun W pn xe tk own => ⟨fun pins s σ H D I h => h pn xe tk own pins s I⟩) (fun a oe cls d pn hz hf => ⟨fun pins s σ H D I h => h oe pn hz hf pins s I⟩)) fun H z pn xe tk own => ?_
  refine hb (X.tr pn xe) (bd.tr own) (Ns.tr ns) (tk.imp fun cls d σ' H' ⟨L', z', q⟩ => ?_) H z
  obtain ⟨e1, e2⟩ := he cls d σ' L' q
  exact ⟨true, by rw [bd.K]; exact e1, fun _ a na oe pn hz hf => e2 a oe pn hz hf H' z', fun f => nomatch f⟩
theorem ks_try0 (bd : Body X P w K mg base k N Nv sc) (ns : Ns X N Nv) (hb : ∀ X' : Cx, Body X' P w K mg base k N Nv sc → Ns X' N Nv → kb X' H0 M body nx rt bk ct σ L) : ks X H0 M (.Try body (h₀ :: hs) [] [] pos) nx rt bk ct σ L :=
  ks_of (ps_try_thru0 pb_wb) fun H z => hb X.nox bd.nx (Ns.nx ns) H z
end

/-! ### a def that is asked about what was caught -/
theorem hot1_suite {X : Cx} {a : Addr} {oe : Obj} {pn : List (Addr × Obj)} {D : Value} {d : Option Addr} (hz : L2N.Zn D d oe) (hf : ∃ vs, oe.data = .fields vs) : L2H.Hot1 (X.suite a pn).A (a, oe) :=
  let ⟨vs, hv⟩ := hf; ⟨rfl, vs, hv, hz.2.2 vs hv⟩
/-- the exception stands in the context -/
structure BodE (X : Cx) (P : Program) (w : World) (K : PySem.W.Frag) (mg : Str → Option Value) (base : Heap) (N Nv : List Str) (sc : Scope) (D a : Addr) : Prop where
  prog : X.prog = P
  w : X.w = w
  K : X.K = K
  mg : X.mg = mg
  nm : Nm X N Nv
  scope : X.env.scope = sc
  pin : ∃ oe, (a, oe) ∈ X.pn ∧ L2N.Zn (.ref D) none oe ∧ ∃ vs, oe.data = .fields vs
  hot : L2H.HotC X
/-- called with a caught exception of the class D, the def answers r -/
structure FkE (P : Program) (w : World) (K : PySem.W.Frag) (mg : Str → Option Value) (base : Heap) (k : Nat) (f : Addr) (fd : FuncData) (ps : List Str) (D : Addr) (r : V) : Prop where
  len : ps.length = 1
  go : ∀ (A : Around) (out : List Env) (s : Shared) (H : Hp) (a : Addr) (oe : Obj) (Q : VK), L2H.RoomH k A → Env0 P w K mg base A out s H → L2H.PinOk out H s (a, oe) → L2H.Hot1 A (a, oe) → L2N.Zn (.ref D) none oe → (∃ vs, oe.data = .fields vs) →
    BindsTo s fd ⟨[.ref a], []⟩ (ps.zip [.ref a]) → (∀ H', Ext H H' → Q r H') → codeAny (model P w) A (.call (.ref f) ⟨[.ref a], []⟩) (CR CX0 out P w H s Q E0) s
theorem fke_of {P : Program} {w : World} {K : PySem.W.Frag} {mg : Str → Option Value} {base : Heap} {k : Nat} {f : Addr} {fd : FuncData} {x qual : Str} {st : Stmt} {ss : List Stmt} {N Nv ps : List Str} {D : Addr} {r : V} (F : Fun K x qual st f fd) (S : FnScope N ps (defScope st))
    (l : ∀ x ∈ Nv, (defScope st).names.lookup x = some .local ∨ (defScope st).names.lookup x = some .cell) (p : ∀ x ∈ Nv, (x == ("__debug__" : Str)) = false ∧ (x == ("__classdict__" : Str)) = false) (eb : defBody st = ss) (len : ps.length = 1)
    (hb : ∀ (X : Cx) (a : Addr) (H : Hp), BodE X P w K mg base N Nv (defScope st) D a → kb X H (fun _ => False) ss (fun _ _ => False) (fun v _ => v = r) (fun _ _ => False) (fun _ _ => False) (start N [.ref a]) []) : FkE P w K mg base (k + 1) f fd ps D r := by
  obtain ⟨oc, od, kV, doc, pm, an, cdv, ct, osl, efd, lk, hcode⟩ := F.ex
  subst efd
  refine ⟨len, fun A out s H a oe Q hr e0 hpin hot hz hf bnd hQ => ?_⟩
  have KX : K.In s.heap := e0.mod.kin.keeps fun b o e => (e0.bs b o e).1
  have lim : s.heap.NoLimit := e0.mod.nolimit.keeps fun b o e => (e0.bs b o e).1
  have rv : Vals [V.ref a] [Value.ref a] := .cons rfl .nil
  have known : ∀ y ∈ ps.zip [Value.ref a], (defScope st).names.lookup y.1 = some .local ∨ ((defScope st).names.lookup y.1 = some .cell ∧ ((cellsFrom (s.heap.objs.size + 1) (defScope st).names []).lookup y.1).isSome = true) := by
    rintro ⟨n, v⟩ hy
    exact (S.par n (List.of_mem_zip hy).1).imp id fun q => ⟨q, PySem.W.cellsFrom_some _ _ _ (.inl q)⟩
  refine codeAny_call_function hr.depth (KX f _ lk) rfl S.co S.gen rfl (PySem.W.codeRec_of KX hcode) (bnd _ _ _ _ ?_)
  refine wpAny_newFunctionEnv_cells S.kind known fun env eenv s1 inn => ?_
  subst eenv
  refine ⟨lim.keeps inn.toInCall.keep, codeAny_func ?_⟩
  have I : Inv (L2H.cxH CX0 P w K mg base N qual (defScope st) f cdv A out s H E0 (a, oe)) [] (start N [.ref a]) H s1 := L2H.inv_startH S hpin e0 (by rw [len]; rfl) rv inn
  have be : BodE (L2H.cxH CX0 P w K mg base N qual (defScope st) f cdv A out s H E0 (a, oe)) P w K mg base N Nv (defScope st) D a :=
    ⟨rfl, rfl, rfl, rfl, ⟨rfl, fun x m => (l x m).elim .inl fun z => .inr (.inl z), p⟩, rfl, ⟨oe, List.mem_cons_self, hz, hf⟩, ⟨(a, oe), hot, List.mem_cons_self⟩⟩
  have body := hb _ a H be H (Hs.s0) [] s1 I
  show wpAny _ _ (execs (defBody st) _) _ _ _
  rw [eb]
  refine wpAny_mono body (fun fl s2 hs => ?_) fun e s2 hs => hs
  cases fl with
  | ret u =>
    obtain ⟨v, σ2, H2, J, rv2, L2, z2, ev⟩ := hs
    subst ev
    exact ⟨v, H2, J.os, J.bare, J.base, J.hok, rv2, hQ H2 z2.ext0⟩
  | next => obtain ⟨_, _, _, _, _, z⟩ := hs; exact z.elim
  | brk => obtain ⟨_, _, _, _, _, z⟩ := hs; exact z.elim
  | cont => obtain ⟨_, _, _, _, _, z⟩ := hs; exact z.elim
/-- .. the def of the module called x -/
structure DefE (P : Program) (w : World) (K : PySem.W.Frag) (mg : Str → Option Value) (base : Heap) (k : Nat) (x : Str) (D : Addr) (r : V) : Prop where
  ex : ∃ f fd ps, FkE P w K mg base k f fd ps D r ∧ mg x = some (.ref f) ∧ PySem.W.keepIn K (.ref f) = true ∧ Binds K fd ps []
theorem FunM.okE {P : Program} {w : World} {K : PySem.W.Frag} {mg : Str → Option Value} {base : Heap} {k : Nat} {x : Str} {st : Stmt} {ps : List Str} {D : Addr} {r : V} (F : FunM K mg x st) (b : ∀ f fd, Fun K x x st f fd → Binds K fd ps []) (h : ∀ f fd, Fun K x x st f fd → FkE P w K mg base k f fd ps D r) : DefE P w K mg base k x D r := by
  obtain ⟨f, fd, F, hm⟩ := F.ex
  exact ⟨f, fd, ps, h f fd F, hm, F.kp, b f fd F⟩
section
variable {X : Cx} {P : Program} {w : World} {K : PySem.W.Frag} {mg : Str → Option Value} {base : Heap} {k j : Nat} {N Nv : List Str} {sc : Scope} {x n : Str} {D a : Addr} {oe : Obj} {pn : List (Addr × Obj)} {r : V}
variable {H0 : Hp} {M : Addr → Prop} {L : LL} {σ : L2.St} {Q : V → LL → Prop} {p p2 pos : Pos} {nx : L2.St → LL → Prop} {rt : V → LL → Prop} {bk ct : L2.St → LL → Prop} {i : Nat}
/-- return f(e), in the except suite -/
theorem kb_retE (bd : Body X P w K mg base k N Nv sc) (De : DefE P w K mg base j x D r) (hj : Nat.ble j k = true) (hg : sc.names.lookup x = some .globalImplicit) (hz : L2N.Zn (.ref D) none oe) (hf : ∃ vs, oe.data = .fields vs) (hi : N[i]? = some n) (mn : n ∈ Nv)
    (h : rt r L) (hdb : (x == ("__debug__" : Str)) = false := by decide) : kb (X.suite a ((a, oe) :: pn)) H0 M [.Return (some (.Call (.Name x p) [.Name n p2] [] pos)) pos'] nx rt bk ct (σ.set i (some (.ref a))) L := by
  refine kb_seq (ks_ret fun H z pins s I => ?_)
  obtain ⟨f, fd, ps, F, hm, hk, hb⟩ := De.ex
  rw [← bd.prog, ← bd.w, ← bd.K, ← bd.mg, ← bd.base] at F
  rw [← bd.mg] at hm
  rw [← bd.K] at hk hb
  have hr := bd.rm (Nat.le_of_ble_eq_true hj)
  have hlt : i < σ.length := by
    have e1 := I.len
    rw [List.length_set] at e1
    rw [e1]
    have e2 : X.N[i]? = some n := by rw [bd.nm.eq]; exact hi
    exact (List.getElem?_eq_some_iff.mp e2).1
  have vn : Vis (X.suite a ((a, oe) :: pn)).env.scope n := bd.nm.vis n mn
  have hN : (X.suite a ((a, oe) :: pn)).N[i]? = some n := by rw [← bd.nm.eq] at hi; exact hi
  have ar : ka (X.suite a ((a, oe) :: pn)) H0 M [.Name n p2] (σ.set i (some (.ref a))) L fun vs L1 => vs = [.ref a] ∧ L1 = L :=
    ka_cons rfl (ke_var i vn hN (by rw [List.getElem?_set_self hlt]) (ka_nil ⟨rfl, rfl⟩) (bd.nm.plain n mn).1 (bd.nm.plain n mn).2)
  refine wpAny_Call_Name_kw (ld_glob I (bd.gl hg) hm ?_ hdb)
  refine PySem.W.callWith_K (h₀ := X.base) I.ok.mod.kin hk (thn (ar H z pos pins s I) fun us s1 ⟨vs, H1, I1, rv, L1, z1, ev, eL⟩ => ⟨I1.kIn, ?_⟩) rfl rfl
  subst ev eL
  cases rv with
  | cons r0 rt0 =>
    cases rt0
    obtain rfl : _ = Value.ref a := r0
    have P1 := I1.pin (a, oe) (List.mem_append_left _ List.mem_cons_self)
    have hpin : L2H.PinOk X.stack H1 s1 (a, oe) := ⟨P1.1, P1.2.1, fun hm2 => (List.mem_cons.mp (I1.stkSub a hm2)).elim P1.2.2.1 P1.2.2.2.1, P1.2.2.2.2⟩
    have b1 := hb s1 [.ref a] I1.kIn (by rw [List.append_nil]; exact F.len.symm)
    rw [List.append_nil] at b1
    have hr2 : L2H.RoomH j (X.suite a ((a, oe) :: pn)).A := ⟨hr.dp, hr.un⟩
    refine wpAny_call (codeAny_mono (F.go (X.suite a ((a, oe) :: pn)).A X.stack s1 H1 a oe (fun v H' => v = r ∧ ∃ L', Hs H0 M L' H' ∧ rt v L') hr2 I1.env0 hpin (hot1_suite hz hf) hz hf b1 fun H' e' => ⟨rfl, _, z1.ext e', h⟩) fun res s3 hq => ?_)
    rcases res with er | fl
    · exact hq.elim
    · cases fl with
      | ret u =>
        obtain ⟨v, H', J, rv2, _, q⟩ := I1.after hq
        exact ⟨v, H', J, rv2, q⟩
      | next => exact hq.elim
      | brk => exact hq.elim
      | cont => exact hq.elim
end
/-! ### isinstance of what was caught -/
def rIsX (K : PySem.W.Frag) (D a : Addr) : List V → Hp → VK → Prop := fun vs H Q =>
  (∃ (c : V) (u : Value) (b : Bool), vs = [.ref a, c] ∧ ClsV c u ∧ PySem.W.kitOne K (.ref D) u = some b ∧ Q (.bl b) H) ∨
  (∃ (tp : Addr) (cs : List V) (us : List Value) (b : Bool), vs = [.ref a, .ref tp] ∧ H tp = some (.tup cs) ∧ Paired ClsV cs us ∧ PySem.W.kitAny K (.ref D) us = some b ∧ Q (.bl b) H)
theorem cr_isX {X : Cx} {a D : Addr} {oe : Obj} (C : ExcC X.K D) (hp : (a, oe) ∈ X.pn) (hz : L2N.Zn (.ref D) none oe) (hf : ∃ vs, oe.data = .fields vs) : CallR X (.builtin "isinstance") (rIsX X.K D a) := by
  intro pins s σ H xs us Q I r h
  have inst : PySem.W.InstAt s.heap a oe D none := by
    obtain ⟨hget, _⟩ := I.pin (a, oe) (List.mem_append_left _ hp)
    obtain ⟨vs, hv⟩ := hf
    obtain ⟨oc, od, oda, osl⟩ := oe
    obtain ⟨h1, h2, _⟩ := hz
    dsimp only at h1 h2 hv
    subst h1 h2 hv
    exact ⟨hget, rfl, rfl, trivial⟩
  have kit := PySem.W.handS_kitx_exc (ox := oe) (x := a) C.hg C.hk C.hs C.hd C.ha C.hn C.ht C.hm
  rcases h with ⟨c, u, b, rfl, k, e, q⟩ | ⟨tp, cs, ws, b, rfl, hT, k, e, q⟩
  · obtain ⟨u1, u2, rfl, r1, r2⟩ := vals2 r
    have e1 : u1 = Value.ref a := r1
    have e2 := k.eq r2
    subst e1 e2
    exact PySem.W.kia_one kit I.kIn inst e (fun z => nomatch z) fun tk => ⟨.bl b, H, I.tok tk, rfl, q⟩
  · obtain ⟨u1, u2, rfl, r1, r2⟩ := vals2 r
    have e1 : u1 = Value.ref a := r1
    have e2 : u2 = Value.ref tp := r2
    subst e1 e2
    obtain ⟨_, its, rv, o, h1, h2, n, h3⟩ := (show ObjOk X.prog X.w H s.heap tp (.tup cs) from I.hok tp _ hT)
    have e3 := ClsV.all k rv
    subst e3
    obtain ⟨oc, od, dt, sl⟩ := o
    simp only at h2 h3
    subst h2 h3
    exact PySem.W.kia_tup kit I.kIn inst h1 e (fun z => nomatch z) fun tk => ⟨.bl b, H, I.tok tk, rfl, q⟩
theorem boI : bootBuiltins ("isinstance" : Str) = some (.builtin "isinstance") := by decide +kernel
/-- names of classes of the module -/
inductive CNs (mg : Str → Option Value) (sc : Scope) : List Expr → List Addr → Prop where
  | nil : CNs mg sc [] []
  | cons {x : Str} {p : Pos} {C : Addr} {es : List Expr} {Cs : List Addr} (hm : mg x = some (.ref C)) (hg : sc.names.lookup x = some .globalImplicit) (hd : (x == ("__debug__" : Str)) = false) (t : CNs mg sc es Cs) : CNs mg sc (.Name x p :: es) (C :: Cs)
section
variable {X : Cx} {P : Program} {w : World} {K : PySem.W.Frag} {mg : Str → Option Value} {base : Heap} {N Nv : List Str} {sc : Scope} {x n : Str} {D a C : Addr} {b : Bool}
variable {H0 : Hp} {M : Addr → Prop} {L : LL} {σ : L2.St} {QT : Bool → LL → Prop} {p p2 p3 p4 pos : Pos} {es : List Expr} {Cs : List Addr}
theorem BodE.gl (b : BodE X P w K mg base N Nv sc D a) (h : sc.names.lookup x = some .globalImplicit) : Gl X x := by
  show X.env.scope.names.lookup x = some .globalImplicit
  rw [b.scope]; exact h
theorem BodE.no (b : BodE X P w K mg base N Nv sc D a) {x : Str} {o : Option Value} (h : mg x = o) : X.mg x = o := by rw [b.mg]; exact h
theorem BodE.ka (be : BodE X P w K mg base N Nv sc D a) (c : CNs mg sc es Cs) : ka X H0 M es σ L fun vs L1 => vs = Cs.map V.ref ∧ L1 = L := by
  induction c with
  | nil => exact ka_nil ⟨rfl, rfl⟩
  | cons hm hg hd t ih =>
    rename_i C1 _ _
    refine ka_cons rfl (ke_c (pe_glob (v := .ref C1) (be.gl hg) (be.no hm) rfl hd) fun H z => wa_mono (ih H z) fun vs H1 ⟨L1, z1, e1, e2⟩ => ⟨L1, z1, ?_⟩)
    subst e1 e2
    exact ⟨rfl, rfl⟩
theorem pairedC : ∀ Cs : List Addr, Paired ClsV (Cs.map V.ref) (Cs.map Value.ref)
  | [] => .nil
  | C :: Cs => .cons (.own C) (pairedC Cs)
theorem BodE.rc (be : BodE X P w K mg base N Nv sc D a) (c : ExcC K D) {xs : List V} {Q : V → LL → Prop} (h : ∀ H, Hs H0 M L H → rIsX K D a xs H (up H0 M Q)) : rc X H0 M (.builtin "isinstance") xs L Q := by
  obtain ⟨oe, hp, hz, hf⟩ := be.pin
  have c' : ExcC X.K D := by rw [be.K]; exact c
  exact rc_of (cr_isX c' hp hz hf) fun H z => by rw [be.K]; exact h H z
/-- isinstance(e, C) -/
theorem BodE.is1 (be : BodE X P w K mg base N Nv sc D a) (c : ExcC K D) (gi : sc.names.lookup ("isinstance" : Str) = some .globalImplicit) (mi : mg ("isinstance" : Str) = none) (mn : n ∈ Nv) (l : Lk N σ n (.ref a)) (hm : mg x = some (.ref C)) (hg : sc.names.lookup x = some .globalImplicit) (hd : (x == ("__debug__" : Str)) = false)
    (hk : PySem.W.kitOne K (.ref D) (.ref C) = some b) (h : QT b L) : kt X H0 M (.Call (.Name "isinstance" p) [.Name n p2, .Name x p3] [] pos) σ L QT := by
  refine kt_val (fun _ => rfl) (ke_callB (id := "isinstance") (be.gl gi) (be.no mi) boI rfl rfl (ka_cons rfl (ke_nm be.nm mn l (ka_cons rfl (ke_c (pe_glob (v := .ref C) (be.gl hg) (be.no hm) rfl hd) (ka_nil ?_))))))
  exact be.rc c fun H z => .inl ⟨.ref C, .ref C, b, rfl, .own C, hk, L, z, b, rfl, h⟩
/-- isinstance(e, T), T a built-in class -/
theorem BodE.isB {T : String} (be : BodE X P w K mg base N Nv sc D a) (c : ExcC K D) (gi : sc.names.lookup ("isinstance" : Str) = some .globalImplicit) (mi : mg ("isinstance" : Str) = none) (mn : n ∈ Nv) (l : Lk N σ n (.ref a)) (hm : mg x = none) (hv : bootBuiltins x = some (.type T)) (hn : x ≠ "__name__") (hg : sc.names.lookup x = some .globalImplicit) (hd : (x == ("__debug__" : Str)) = false)
    (hk : PySem.W.kitOne K (.ref D) (.type T) = some b) (h : QT b L) : kt X H0 M (.Call (.Name "isinstance" p) [.Name n p2, .Name x p3] [] pos) σ L QT := by
  refine kt_val (fun _ => rfl) (ke_callB (id := "isinstance") (be.gl gi) (be.no mi) boI rfl rfl (ka_cons rfl (ke_nm be.nm mn l (ka_cons rfl (ke_c (pe_bltn (v := .ty T) (be.gl hg) (be.no hm) hv rfl hn hd) (ka_nil ?_))))))
  exact be.rc c fun H z => .inl ⟨.ty T, .type T, b, rfl, .ty T, hk, L, z, b, rfl, h⟩
/-- isinstance(e, (C, ..)) -/
theorem BodE.isT {x1 : Nat} (be : BodE X P w K mg base N Nv sc D a) (c : ExcC K D) (gi : sc.names.lookup ("isinstance" : Str) = some .globalImplicit) (mi : mg ("isinstance" : Str) = none) (mn : n ∈ Nv) (l : Lk N σ n (.ref a)) (hc : CNs mg sc es Cs) (hl : Nat.ble Cs.length 1000 = true)
    (hk : PySem.W.kitAny K (.ref D) (Cs.map Value.ref) = some b) (h : ∀ L', QT b L') : kt X H0 M (.Call (.Name "isinstance" p) [.Name n p2, .Tuple es x1 p3] [] pos) σ L QT := by
  refine kt_val (fun _ => rfl) (ke_callB (id := "isinstance") (be.gl gi) (be.no mi) boI rfl rfl (ka_cons rfl (ke_nm be.nm mn l (ka_cons rfl (ke_tup fun H z => wa_mono (be.ka hc H z) fun vs H1 ⟨L1, z1, e1, e2⟩ => ⟨L1, z1, ?_⟩)))))
  subst e1 e2
  refine ⟨by rw [List.length_map]; exact Nat.le_trans (Nat.le_of_ble_eq_true hl) (by decide), fun q nq => ka_nil ?_⟩
  exact be.rc c fun H z => .inr ⟨q, _, _, b, rfl, z.get .here, pairedC Cs, hk, _, z, b, rfl, h _⟩
end
end Xi

/-! ## Fr -/
/-! The best departures of a leg between two lines: whole numbers. -/
namespace Xi
def minI (a b : Int) : Int := if b < a then b else a
def maxI (a b : Int) : Int := if b > a then b else a
theorem mod_same {x y m : Int} (h : m ∣ (x - y)) : x % m = y % m := Int.emod_eq_emod_iff_emod_sub_eq_zero.mpr (Int.emod_eq_zero_of_dvd h)
theorem ge_mod {T g m : Int} (hT : 0 ≤ T) (hd : m ∣ (T - g)) (hm : 0 < m) : g % m ≤ T := by
  have : T % m = g % m := mod_same hd
  rw [← this]
  have h1 := Int.mul_ediv_add_emod T m
  have h2 : 0 ≤ m * (T / m) := Int.mul_nonneg (by omega) (Int.ediv_nonneg hT (by omega))
  omega
theorem mod_is {e y w x : Int} (hd : e ∣ y) (h0 : 0 ≤ w) (h1 : w < e) (hx : x = y + w) : x % e = w := by
  obtain ⟨z, rfl⟩ := hd
  rw [hx, Int.add_comm, Int.add_mul_emod_self_left, Int.emod_eq_of_lt h0 h1]
theorem mod_inner (a F P : Int) : (a - F % P) % P = (a - F) % P := by
  have h := Int.mul_ediv_add_emod F P
  rw [show a - F % P = a - F + P * (F / P) by omega, Int.add_mul_emod_self_left]
section
variable {be ae xe z g : Int}
theorem best_a {m : Int} (hx : 0 < xe) (hm : 0 < m) : g % m ≤ z % xe + (g - z % xe) % m ∧ (z % xe + (g - z % xe) % m = g % m ↔ z % xe ≤ g % m) := by
  have a1 := Int.emod_nonneg z (b := xe) (by omega)
  have a2 := Int.emod_nonneg (g - z % xe) (b := m) (by omega)
  have d1 := emod_dvd_sub (g - z % xe) m
  have d2 := emod_dvd_sub g m
  have b1 := Int.emod_nonneg g (b := m) (by omega)
  have b2 := Int.emod_lt_of_pos g hm
  refine ⟨ge_mod (by omega) (dvd_neg_sub (by rw [show g - (z % xe + (g - z % xe) % m) = g - z % xe - (g - z % xe) % m by omega]; exact d1)) hm, fun h => by omega, fun h => ?_⟩
  rw [mod_is (w := g % m - z % xe) d2 (by omega) (by omega) (by omega : g - z % xe = _)]
  omega
theorem best_b {P : Int} (hb : 0 < be) (hP : 0 < P) (hd : be ∣ P) : g % be ≤ z % be + (g - z) % P ∧ (z % be + (g - z) % P = g % be ↔ (g - z) % P ≤ g % be) := by
  have a1 := Int.emod_nonneg z (b := be) (by omega)
  have a2 := Int.emod_nonneg (g - z) (b := P) (by omega)
  have d1 := Int.dvd_trans hd (emod_dvd_sub (g - z) P)
  have d2 := emod_dvd_sub g be
  have d3 := emod_dvd_sub z be
  have b1 := Int.emod_nonneg g (b := be) (by omega)
  have b2 := Int.emod_lt_of_pos g hb
  refine ⟨ge_mod (by omega) (dvd_neg_sub (by rw [show g - (z % be + (g - z) % P) = (g - z - (g - z) % P) + (z - z % be) by omega]; exact Int.dvd_add d1 d3)) hb, fun h => by omega, fun h => ?_⟩
  rw [mod_is (e := be) (w := g % be - (g - z) % P) (Int.dvd_sub d2 d1) (by omega) (by omega) (by omega : z = _)]
  omega
theorem best_c (hb : 0 < be) (ha : 0 < ae) (hd : ae ∣ be) : g % ae ≤ z % be + (g - z) % ae ∧ (z % be + (g - z) % ae = g % ae ↔ z % be ≤ g % ae) := by
  have a1 := Int.emod_nonneg z (b := be) (by omega)
  have a2 := Int.emod_nonneg (g - z) (b := ae) (by omega)
  have d1 := emod_dvd_sub (g - z) ae
  have d2 := emod_dvd_sub g ae
  have d3 := Int.dvd_trans hd (emod_dvd_sub z be)
  have b1 := Int.emod_nonneg g (b := ae) (by omega)
  have b2 := Int.emod_lt_of_pos g ha
  refine ⟨ge_mod (by omega) (dvd_neg_sub (by rw [show g - (z % be + (g - z) % ae) = (g - z - (g - z) % ae) + (z - z % be) by omega]; exact Int.dvd_add d1 d3)) ha, fun h => by omega, fun h => ?_⟩
  rw [mod_is (e := ae) (w := g % ae - z % be) (Int.dvd_sub d2 d3) (by omega) (by omega) (by omega : g - z = _)]
  omega
/-- a block of starts, looked at from its end -/
theorem block_end {P W : Int} (hP : 0 < P) (h0 : 0 ≤ W) (h1 : W < P) : (z - g % P + W) % P ≤ W ↔ (g - z) % P ≤ W := by
  have a1 := Int.emod_nonneg (g - z) (b := P) (by omega)
  have a2 := Int.emod_lt_of_pos (g - z) hP
  have d1 := emod_dvd_sub (g - z) P
  have d2 := emod_dvd_sub g P
  have dd : P ∣ (g - g % P - (g - z - (g - z) % P)) := Int.dvd_sub d2 d1
  by_cases h : (g - z) % P ≤ W
  · rw [mod_is (w := W - (g - z) % P) dd (by omega) (by omega) (by omega : z - g % P + W = _)]
    omega
  · rw [mod_is (w := W - (g - z) % P + P) (Int.dvd_sub dd (Int.dvd_refl P)) (by omega) (by omega) (by omega : z - g % P + W = _)]
    omega
end
/-- the numbers of the program: a line before, a leg, a line behind -/
def leastW (be bt br xr ae at_ : Int) : Int := (at_ - xr - bt - br) % minI be ae
def bestP (be xe ae : Int) : Int := minI xe (maxI be ae)
def bestF (be bt br xe xr ae at_ : Int) : Int := (bt + br + (at_ - xr - (bt + br)) % minI xe ae - leastW be bt br xr ae at_) % bestP be xe ae
def bestL (be bt br xe xr ae at_ : Int) : Int := minI xe (leastW be bt br xr ae at_ + 1)
section
variable {be bt br xe xt xr ae at_ ar : Int}
abbrev rideV (be bt br xe xt xr ae at_ ar : Int) : Int := addR (addE be xe) (addT be bt br xe xt) (addR be bt br xe xt xr) ae at_ ar
theorem best_num (hb : 0 < be) (hx : 0 < xe) (ha : 0 < ae) (f1 : be ∣ xe ∨ xe ∣ be) (f2 : be ∣ ae ∨ ae ∣ be) (f3 : xe ∣ ae ∨ ae ∣ xe) :
    br + xr + ar + leastW be bt br xr ae at_ ≤ rideV be bt br xe xt xr ae at_ ar ∧ (rideV be bt br xe xt xr ae at_ ar = br + xr + ar + leastW be bt br xr ae at_ ↔ (xt - bestF be bt br xe xr ae at_) % bestP be xe ae < bestL be bt br xe xr ae at_) := by
  obtain ⟨W, eW⟩ : ∃ W, leastW be bt br xr ae at_ = W := ⟨_, rfl⟩
  unfold bestF bestL
  rw [eW, mod_inner]
  unfold leastW at eW
  obtain ⟨g, eg⟩ : ∃ g, at_ - xr - bt - br = g := ⟨_, rfl⟩
  rw [eg] at eW
  rw [show at_ - xr - (bt + br) = g by omega]
  obtain ⟨z, ez⟩ : ∃ z, xt - bt - br = z := ⟨_, rfl⟩
  show _ ≤ addR be bt br xe xt xr + addW (addE be xe) (addT be bt br xe xt) (addR be bt br xe xt xr) ae at_ + ar ∧ (addR be bt br xe xt xr + addW (addE be xe) (addT be bt br xe xt) (addR be bt br xe xt xr) ae at_ + ar = _ ↔ _)
  rw [show addR be bt br xe xt xr = br + addW be bt br xe xt + xr from rfl]
  obtain ⟨w, ew⟩ : ∃ w, addW be bt br xe xt = w := ⟨_, rfl⟩
  have ew' := ew
  unfold addW at ew'
  rw [ez] at ew'
  rw [ew]
  have fa : ∀ {a b : Int}, 0 < a → 0 < b → (a ∣ b ∨ b ∣ a) → a ≤ b → a ∣ b := fun {a b} h1 h2 f h => by
    rcases f with f | f
    · exact f
    · have := Int.le_of_dvd h1 f
      rw [show a = b by omega]; exact Int.dvd_refl _
  by_cases h1 : xe ≤ be
  · -- the leg runs at least as often as the line before
    have dxb := fa hx hb f1.symm h1
    have ew2 : z % xe = w := by
      rw [← ew']
      split
      · rfl
      · rw [show be = xe by omega]
    have eE : addE be xe = be := by unfold addE; rw [if_pos h1]
    have eT : addT be bt br xe xt = bt := by unfold addT; rw [if_pos h1]
    rw [eE, eT]
    unfold addW
    rw [show at_ - bt - (br + w + xr) = g - w by omega]
    have em : (if ae < be then ae else be) = minI be ae := rfl
    rw [em]
    have mp : 0 < minI be ae := by unfold minI; split <;> omega
    have k := best_a (g := g) (z := z) hx mp
    rw [ew2, eW] at k
    have eP : bestP be xe ae = xe := by unfold bestP minI maxI; split <;> split at * <;> omega
    rw [eP]
    have dd : xe ∣ (g % minI xe ae - W) := by
      rw [← eW]
      by_cases h2 : ae < xe
      · rw [show minI xe ae = ae from if_pos h2, show minI be ae = ae from if_pos (by omega), Int.sub_self]
        exact Int.dvd_zero _
      · rw [show minI xe ae = xe from if_neg h2]
        have dm : xe ∣ minI be ae := by unfold minI; split; exact fa hx ha f3 (by omega); exact dxb
        have k1 := emod_dvd_sub g xe
        have k2 := Int.dvd_trans dm (emod_dvd_sub g (minI be ae))
        have := Int.dvd_sub k2 k1
        rw [show g - g % minI be ae - (g - g % xe) = g % xe - g % minI be ae by omega] at this
        exact this
    have es : (xt - (bt + br + g % minI xe ae - W)) % xe = w := by
      rw [← ew2]
      refine mod_same ?_
      rw [show xt - (bt + br + g % minI xe ae - W) - z = -(g % minI xe ae - W) by omega]
      exact Int.dvd_neg.mpr dd
    rw [es]
    have w2 := Int.emod_lt_of_pos z hx
    rw [ew2] at w2
    have lm : w < minI xe (W + 1) ↔ w ≤ W := by unfold minI; split <;> omega
    rw [lm]
    refine ⟨by omega, ?_⟩
    rw [← k.2]
    omega
  · have dbx := fa hb hx f1 (by omega)
    have ew2 : z % be = w := by rw [← ew', if_neg (by omega)]
    have eE : addE be xe = xe := by unfold addE; rw [if_neg h1]
    have eT : addT be bt br xe xt = (xt - w - br) % xe := by unfold addT; rw [if_neg h1, ew]
    rw [eE, eT]
    unfold addW
    have em : (if ae < xe then ae else xe) = minI xe ae := rfl
    rw [em]
    have dmx : minI xe ae ∣ xe := by
      unfold minI; split
      · exact fa ha hx f3.symm (by omega)
      · exact Int.dvd_refl _
    have e2 : (at_ - (xt - w - br) % xe - (br + w + xr)) % minI xe ae = (g - z) % minI xe ae := by
      refine mod_same ?_
      have := Int.dvd_trans dmx (emod_dvd_sub (xt - w - br) xe)
      rw [show at_ - (xt - w - br) % xe - (br + w + xr) - (g - z) = xt - w - br - (xt - w - br) % xe by omega]
      exact this
    rw [e2]
    by_cases h2 : be ≤ ae
    · have dba := fa hb ha f2 h2
      have eP : bestP be xe ae = minI xe ae := by unfold bestP maxI; split <;> unfold minI <;> split <;> omega
      have Pp : 0 < minI xe ae := by unfold minI; split <;> omega
      have dbP : be ∣ minI xe ae := by unfold minI; split <;> assumption
      rw [eP]
      have em3 : minI be ae = be := by unfold minI; rw [if_neg (by omega)]
      rw [em3] at eW
      have k := best_b (g := g) (z := z) hb Pp dbP
      rw [ew2, eW] at k
      have W0 := Int.emod_nonneg g (b := be) (by omega)
      have W1 := Int.emod_lt_of_pos g hb
      rw [eW] at W0 W1
      have Pb := Int.le_of_dvd Pp dbP
      have bl := block_end (z := z) (g := g) Pp W0 (by omega)
      rw [show xt - (bt + br + g % minI xe ae - W) = z - g % minI xe ae + W by omega]
      have lm : minI xe (W + 1) = W + 1 := by unfold minI; rw [if_pos (by omega)]
      rw [lm]
      refine ⟨by omega, ?_⟩
      rw [show (z - g % minI xe ae + W) % minI xe ae < W + 1 ↔ (z - g % minI xe ae + W) % minI xe ae ≤ W from Int.lt_add_one_iff, bl, ← k.2]
      omega
    · have dab := fa ha hb f2.symm (by omega)
      have eP : bestP be xe ae = be := by unfold bestP minI maxI; split <;> split at * <;> omega
      have em2 : minI xe ae = ae := by unfold minI; rw [if_pos (by omega)]
      have em3 : minI be ae = ae := by unfold minI; rw [if_pos (by omega)]
      rw [em3] at eW
      rw [eP, em2, eW]
      have k := best_c (g := g) (z := z) hb ha dab
      rw [ew2, eW] at k
      have W1 := Int.emod_lt_of_pos g ha
      rw [eW] at W1
      have lm : minI xe (W + 1) = W + 1 := by unfold minI; rw [if_pos (by omega)]
      rw [lm, show xt - (bt + br + W - W) = z by omega, ew2]
      refine ⟨by omega, ?_⟩
      rw [show w < W + 1 ↔ w ≤ W from Int.lt_add_one_iff, ← k.2]
      omega
end
end Xi

/-! ## Fr2 -/
/-! Blocks of starts that come again: the starts in ascending order, by number. -/
namespace Xi
def beyondV (F L P : Int) : Int := if F + L - P > 0 then F + L - P else 0
def placeV (F L P r : Int) : Int := if r < beyondV F L P then r else F + r - beyondV F L P
def nthV (F L P n : Int) : Int := n / L * P + placeV F L P (n % L)
section
variable {F L P K : Int}
theorem beyond_rng (h0 : 0 ≤ F) (h1 : F < P) (l0 : 0 < L) (l1 : L ≤ P) : 0 ≤ beyondV F L P ∧ beyondV F L P < L ∧ beyondV F L P ≤ F ∧ (beyondV F L P = 0 ∨ beyondV F L P = F + L - P) ∧ F + L - P ≤ beyondV F L P := by unfold beyondV; split <;> omega
theorem place_rng (h0 : 0 ≤ F) (h1 : F < P) (l0 : 0 < L) (l1 : L ≤ P) {r : Int} (r0 : 0 ≤ r) (r1 : r < L) : 0 ≤ placeV F L P r ∧ placeV F L P r < P ∧ (placeV F L P r - F) % P < L := by
  obtain ⟨a, b, c, d, e⟩ := beyond_rng h0 h1 l0 l1
  unfold placeV
  split
  · refine ⟨r0, by omega, ?_⟩
    rw [mod_is (e := P) (y := P * (-1)) (w := r - F + P) ⟨-1, rfl⟩ (by omega) (by omega) (by omega)]
    omega
  · refine ⟨by omega, by omega, ?_⟩
    rw [mod_is (e := P) (y := 0) (w := r - beyondV F L P) (Int.dvd_zero _) (by omega) (by omega) (by omega)]
    omega
theorem place_lt (h0 : 0 ≤ F) (h1 : F < P) (l0 : 0 < L) (l1 : L ≤ P) {r s : Int} (hs : r < s) : placeV F L P r < placeV F L P s := by
  obtain ⟨a, b, c, d, e⟩ := beyond_rng h0 h1 l0 l1
  unfold placeV
  split <;> split <;> omega
theorem place_met (h0 : 0 ≤ F) (h1 : F < P) (l0 : 0 < L) (l1 : L ≤ P) {t : Int} (t0 : 0 ≤ t) (t1 : t < P) (h : (t - F) % P < L) : ∃ r, 0 ≤ r ∧ r < L ∧ placeV F L P r = t := by
  obtain ⟨a, b, c, d, e⟩ := beyond_rng h0 h1 l0 l1
  by_cases k : F ≤ t
  · rw [mod_is (e := P) (y := 0) (w := t - F) (Int.dvd_zero _) (by omega) (by omega) (by omega)] at h
    exact ⟨t - F + beyondV F L P, by omega, by omega, by unfold placeV; rw [if_neg (by omega)]; omega⟩
  · rw [mod_is (e := P) (y := P * (-1)) (w := t - F + P) ⟨-1, rfl⟩ (by omega) (by omega) (by omega)] at h
    exact ⟨t, by omega, by omega, by unfold placeV; rw [if_pos (by omega)]⟩
theorem nth_split (l0 : 0 < L) {q r : Int} (r0 : 0 ≤ r) (r1 : r < L) : nthV F L P (q * L + r) = q * P + placeV F L P r := by
  have e1 : (q * L + r) % L = r := mod_is (y := q * L) ⟨q, Int.mul_comm _ _⟩ r0 r1 rfl
  have e2 : (q * L + r) / L = q := by
    have := Int.mul_ediv_add_emod (q * L + r) L
    rw [e1] at this
    have h : L * ((q * L + r) / L) = L * q := by rw [Int.mul_comm L q]; omega
    exact Int.eq_of_mul_eq_mul_left (by omega) h
  unfold nthV
  rw [e1, e2]
theorem split_n (l0 : 0 < L) (n : Int) : ∃ q r, n = q * L + r ∧ 0 ≤ r ∧ r < L := ⟨n / L, n % L, by have := Int.mul_ediv_add_emod n L; rw [Int.mul_comm] at this; omega, Int.emod_nonneg _ (by omega), Int.emod_lt_of_pos _ l0⟩
theorem mul_lt_of {q k A r : Int} (hA : 0 < A) (r0 : 0 ≤ r) (h : q * A + r < k * A) : q < k := by
  by_cases c : q < k
  · exact c
  · have := Int.mul_le_mul_of_nonneg_right (show k ≤ q by omega) (Int.le_of_lt hA)
    omega
theorem lt_mul_of {q k A r : Int} (hA : 0 < A) (h : q < k) (r1 : r < A) : q * A + r < k * A := by
  have := Int.mul_le_mul_of_nonneg_right (show q + 1 ≤ k by omega) (Int.le_of_lt hA)
  rw [Int.add_mul] at this
  omega
theorem mul_ge {q A : Int} (hA : 0 < A) (h : 0 ≤ q) : 0 ≤ q * A := Int.mul_nonneg h (by omega)
theorem neg_mul_lt {q A r : Int} (hA : 0 < A) (r1 : r < A) (h : 0 ≤ q * A + r) : 0 ≤ q := by
  by_cases c : 0 ≤ q
  · exact c
  · have := Int.mul_le_mul_of_nonneg_right (show q ≤ -1 by omega) (Int.le_of_lt hA)
    omega
/-- each number up to the count gives a best start -/
theorem nth_ok (h0 : 0 ≤ F) (h1 : F < P) (l0 : 0 < L) (l1 : L ≤ P) {n : Int} (n0 : 0 ≤ n) (n1 : n < K * L) : 0 ≤ nthV F L P n ∧ nthV F L P n < K * P ∧ (nthV F L P n - F) % P < L := by
  obtain ⟨q, r, rfl, r0, r1⟩ := split_n l0 n
  rw [nth_split l0 r0 r1]
  obtain ⟨a, b, c⟩ := place_rng h0 h1 l0 l1 r0 r1
  have q0 := neg_mul_lt l0 r1 n0
  have q1 := mul_lt_of l0 r0 n1
  have := mul_ge (A := P) (by omega) q0
  refine ⟨by omega, lt_mul_of (by omega) q1 b, ?_⟩
  rw [show q * P + placeV F L P r - F = placeV F L P r - F + P * q by rw [Int.mul_comm]; omega, Int.add_mul_emod_self_left]
  exact c
theorem nth_lt (h0 : 0 ≤ F) (h1 : F < P) (l0 : 0 < L) (l1 : L ≤ P) {m n : Int} (h : m < n) : nthV F L P m < nthV F L P n := by
  obtain ⟨q, r, rfl, r0, r1⟩ := split_n l0 m
  obtain ⟨k, s, rfl, s0, s1⟩ := split_n l0 n
  rw [nth_split l0 r0 r1, nth_split l0 s0 s1]
  obtain ⟨a, b, c⟩ := place_rng h0 h1 l0 l1 r0 r1
  obtain ⟨a', b', c'⟩ := place_rng h0 h1 l0 l1 s0 s1
  by_cases e : q = k
  · subst e
    have := place_lt h0 h1 l0 l1 (show r < s by omega)
    omega
  · have : q < k := by
      by_cases c : q < k
      · exact c
      · have := lt_mul_of (r := s) l0 (show k < q by omega) s1
        omega
    have := lt_mul_of (A := P) (by omega) this b
    omega
theorem nth_met (h0 : 0 ≤ F) (h1 : F < P) (l0 : 0 < L) (l1 : L ≤ P) {a : Int} (a0 : 0 ≤ a) (a1 : a < K * P) (h : (a - F) % P < L) : ∃ n, 0 ≤ n ∧ n < K * L ∧ nthV F L P n = a := by
  have hP : 0 < P := by omega
  obtain ⟨q, t, rfl, t0, t1⟩ := split_n hP a
  rw [show q * P + t - F = t - F + P * q by rw [Int.mul_comm]; omega, Int.add_mul_emod_self_left] at h
  obtain ⟨r, r0, r1, er⟩ := place_met h0 h1 l0 l1 t0 t1 h
  have q0 := neg_mul_lt hP t1 a0
  have q1 := mul_lt_of hP t0 a1
  have := mul_ge l0 q0
  exact ⟨q * L + r, by omega, lt_mul_of l0 q1 r1, by rw [nth_split l0 r0 r1, er]⟩
end
section
variable {be bt br xe xr ae at_ : Int}
/-- the block lies right -/
theorem best_rng (hb : 0 < be) (hx : 0 < xe) (ha : 0 < ae) (f1 : be ∣ xe ∨ xe ∣ be) (f3 : xe ∣ ae ∨ ae ∣ xe) :
    0 < bestP be xe ae ∧ bestP be xe ae ∣ xe ∧ 0 ≤ bestF be bt br xe xr ae at_ ∧ bestF be bt br xe xr ae at_ < bestP be xe ae ∧ 0 < bestL be bt br xe xr ae at_ ∧ bestL be bt br xe xr ae at_ ≤ bestP be xe ae := by
  have P0 : 0 < bestP be xe ae := by unfold bestP minI maxI; split <;> split at * <;> omega
  have fa : ∀ {a b : Int}, 0 < a → 0 < b → (a ∣ b ∨ b ∣ a) → a ≤ b → a ∣ b := fun {a b} h1 h2 f h => by
    rcases f with f | f
    · exact f
    · have := Int.le_of_dvd h1 f
      rw [show a = b by omega]; exact Int.dvd_refl _
  have m0 : 0 < minI be ae := by unfold minI; split <;> omega
  have w0 : 0 ≤ leastW be bt br xr ae at_ := Int.emod_nonneg _ (by omega)
  have w1 : leastW be bt br xr ae at_ < minI be ae := Int.emod_lt_of_pos _ m0
  have mm : minI be ae ≤ maxI be ae := by unfold minI maxI; split <;> split <;> omega
  refine ⟨P0, ?_, Int.emod_nonneg _ (by omega), Int.emod_lt_of_pos _ P0, ?_, ?_⟩
  · unfold bestP minI maxI
    split
    · split
      · exact fa ha hx f3.symm (by omega)
      · exact Int.dvd_refl _
    · split
      · exact fa hb hx f1 (by omega)
      · exact Int.dvd_refl _
  · unfold bestL minI; split <;> omega
  · unfold bestL bestP minI at *
    split <;> split <;> omega
end
end Xi

/-! ## Num8 -/
/-! Two lines compared: how much later one arrives. -/
namespace Xi
theorem emod_is {e y w x : Int} (hd : e ∣ y) (h0 : 0 ≤ w) (h1 : w < e) (hx : x = y + w) : x % e = w := by
  obtain ⟨z, rfl⟩ := hd
  rw [hx, Int.add_comm, Int.add_mul_emod_self_left, Int.emod_eq_of_lt h0 h1]
theorem dvd_emod {e y : Int} (h : e ∣ y) : y % e = 0 := Int.emod_eq_zero_of_dvd h
/-- by how much the first line arrives later -/
abbrev leadT (x y : T3) (p : Int) : Int := x.arr p - y.arr p
def gapV (x y : T3) : Int := (x.2.1 - y.2.1) % x.1
def topV (x y : T3) : Int := x.2.2 - y.2.2 + gapV x y
def longV (x y : T3) (l : Int) : Int := ((topV x y - l) / x.1 + 1) * x.1 - gapV x y
def manyV (x y : T3) (l : Int) : Int := if (if longV x y l < y.1 then longV x y l else y.1) > 0 then (if longV x y l < y.1 then longV x y l else y.1) else 0
def bigE (x y : T3) : Int := if y.1 > x.1 then y.1 else x.1
def blockV (x y : T3) (l : Int) : Int × Int := if x.1 ≤ y.1 then (y.2.1 - manyV x y l + 1, manyV x y l) else (x.2.1 + 1, x.1 - manyV y x (1 - l))
def firstInV (f l e t : Int) : Int := if (t - f) % e < l then t else t + (f - t) % e
def stepsV (x y : T3) : Int := (gapV x y + y.1 - 1) / x.1
def lowV (x y : T3) : Int := topV x y - stepsV x y * x.1
def diffsV (x y : T3) : T3 := if x.1 ≤ y.1 then (lowV x y, topV x y, if stepsV x y > 0 then x.1 else 0) else (-topV y x, -lowV y x, if stepsV y x > 0 then y.1 else 0)
def worstV (x y : T3) : Int := firstInV (blockV x y (diffsV x y).2.1).1 (blockV x y (diffsV x y).2.1).2 (bigE x y) 0
def countsV (x y : T3) : T3 := ((blockV y x 1).2, bigE x y - (blockV y x 1).2 - (blockV x y 1).2, (blockV x y 1).2)
section
variable {x y : T3} {p l : Int}
theorem small_dvd (hx : x.ok) (hy : y.ok) (f : FitI x.1 y.1) (h : x.1 ≤ y.1) : x.1 ∣ y.1 := by
  rcases f with q | q
  · exact q
  · have := Int.le_of_dvd hx.e1 q
    rw [show x.1 = y.1 by omega]; exact Int.dvd_refl _
theorem gap_rng (hx : x.ok) : 0 ≤ gapV x y ∧ gapV x y < x.1 := ⟨Int.emod_nonneg _ (by have := hx.e1; omega), Int.emod_lt_of_pos _ hx.e1⟩
theorem lead_eq (hx : x.ok) (hy : y.ok) (hd : x.1 ∣ y.1) (p : Int) : leadT x y p = topV x y - x.1 * ((gapV x y + (y.2.1 - p) % y.1) / x.1) := by
  have e1 := hx.e1
  have g := emod_dvd_sub (x.2.1 - y.2.1) x.1
  have w := Int.dvd_trans hd (emod_dvd_sub (y.2.1 - p) y.1)
  have k := Int.mul_ediv_add_emod (gapV x y + (y.2.1 - p) % y.1) x.1
  have r0 := Int.emod_nonneg (gapV x y + (y.2.1 - p) % y.1) (b := x.1) (by omega)
  have r1 := Int.emod_lt_of_pos (gapV x y + (y.2.1 - p) % y.1) e1
  have r2 := emod_dvd_sub (gapV x y + (y.2.1 - p) % y.1) x.1
  have a : (x.2.1 - p) % x.1 = (gapV x y + (y.2.1 - p) % y.1) % x.1 := by
    refine emod_is (y := x.2.1 - y.2.1 - (x.2.1 - y.2.1) % x.1 + (y.2.1 - p - (y.2.1 - p) % y.1) + (gapV x y + (y.2.1 - p) % y.1 - (gapV x y + (y.2.1 - p) % y.1) % x.1)) (Int.dvd_add (Int.dvd_add g w) r2) r0 r1 ?_
    unfold gapV
    omega
  show p + (x.2.1 - p) % x.1 + x.2.2 - (p + (y.2.1 - p) % y.1 + y.2.2) = _
  unfold topV
  omega
theorem many_iff (hx : x.ok) (hy : y.ok) (hd : x.1 ∣ y.1) (p l : Int) : l ≤ leadT x y p ↔ (y.2.1 - p) % y.1 < manyV x y l := by
  have e1 := hx.e1
  have w0 := Int.emod_nonneg (y.2.1 - p) (b := y.1) (by have := hy.e1; omega)
  have w1 := Int.emod_lt_of_pos (y.2.1 - p) hy.e1
  rw [lead_eq hx hy hd]
  have a : l ≤ topV x y - x.1 * ((gapV x y + (y.2.1 - p) % y.1) / x.1) ↔ (gapV x y + (y.2.1 - p) % y.1) / x.1 ≤ (topV x y - l) / x.1 := by
    rw [Int.le_ediv_iff_mul_le e1, Int.mul_comm]
    omega
  have b : (gapV x y + (y.2.1 - p) % y.1) / x.1 ≤ (topV x y - l) / x.1 ↔ gapV x y + (y.2.1 - p) % y.1 < ((topV x y - l) / x.1 + 1) * x.1 := by
    rw [← Int.ediv_lt_iff_lt_mul e1]
    omega
  rw [a, b]
  unfold manyV
  have c : longV x y l = ((topV x y - l) / x.1 + 1) * x.1 - gapV x y := rfl
  constructor
  · intro h
    split <;> (try split) <;> omega
  · intro h
    split at h
    · split at h <;> omega
    · omega
theorem many_rng (hy : y.ok) : 0 ≤ manyV x y l ∧ manyV x y l ≤ y.1 := by
  have := hy.e1
  unfold manyV
  constructor <;> (split <;> (try split) <;> omega)
theorem bigE_pos (hx : x.ok) (hy : y.ok) : 0 < bigE x y := by
  have := hx.e1
  have := hy.e1
  unfold bigE
  split <;> omega
theorem bigE_comm : bigE x y = bigE y x := by unfold bigE; split <;> split <;> omega
theorem block_iff (hx : x.ok) (hy : y.ok) (f : FitI x.1 y.1) (p l : Int) : l ≤ leadT x y p ↔ (p - (blockV x y l).1) % bigE x y < (blockV x y l).2 := by
  by_cases h : x.1 ≤ y.1
  · have e1 := hy.e1
    have eb : bigE x y = y.1 := by unfold bigE; split <;> omega
    have m := many_rng (x := x) (l := l) hy
    rw [many_iff hx hy (small_dvd hx hy f h), eb]
    unfold blockV
    rw [if_pos h]
    show _ ↔ (p - (y.2.1 - manyV x y l + 1)) % y.1 < manyV x y l
    have w0 := Int.emod_nonneg (y.2.1 - p) (b := y.1) (by omega)
    have w1 := Int.emod_lt_of_pos (y.2.1 - p) e1
    have wd := emod_dvd_sub (y.2.1 - p) y.1
    obtain ⟨w, ew⟩ : ∃ w, (y.2.1 - p) % y.1 = w := ⟨_, rfl⟩
    rw [ew] at w0 w1 wd ⊢
    by_cases k : w < manyV x y l
    · rw [emod_is (w := manyV x y l - 1 - w) (Int.dvd_neg.mpr wd) (by omega) (by omega) (by omega)]
      omega
    · rw [emod_is (w := y.1 + manyV x y l - 1 - w) (Int.dvd_neg.mpr (Int.dvd_add wd (Int.dvd_refl _))) (by omega) (by omega) (by omega)]
      omega
  · have e1 := hx.e1
    have eb : bigE x y = x.1 := by unfold bigE; split <;> omega
    have m := many_rng (x := y) (l := 1 - l) hx
    have g := many_iff hy hx (small_dvd hy hx (f.elim .inr .inl) (by omega)) p (1 - l)
    rw [eb]
    unfold blockV
    rw [if_neg h]
    show _ ↔ (p - (x.2.1 + 1)) % x.1 < x.1 - manyV y x (1 - l)
    have w0 := Int.emod_nonneg (x.2.1 - p) (b := x.1) (by omega)
    have w1 := Int.emod_lt_of_pos (x.2.1 - p) e1
    have wd := emod_dvd_sub (x.2.1 - p) x.1
    obtain ⟨w, ew⟩ : ∃ w, (x.2.1 - p) % x.1 = w := ⟨_, rfl⟩
    rw [ew] at w0 w1 wd g
    rw [emod_is (w := x.1 - 1 - w) (Int.dvd_neg.mpr (Int.dvd_add wd (Int.dvd_refl _))) (by omega) (by omega) (by omega)]
    have : leadT y x p = -leadT x y p := by show y.arr p - x.arr p = -(x.arr p - y.arr p); omega
    omega
theorem block_rng (hx : x.ok) (hy : y.ok) : 0 ≤ (blockV x y l).2 ∧ (blockV x y l).2 ≤ bigE x y := by
  unfold blockV bigE
  by_cases h : x.1 ≤ y.1
  · have m := many_rng (x := x) (l := l) hy
    rw [if_pos h]
    show 0 ≤ manyV x y l ∧ manyV x y l ≤ _
    split <;> omega
  · have m := many_rng (x := y) (l := 1 - l) hx
    rw [if_neg h]
    show 0 ≤ x.1 - manyV y x (1 - l) ∧ x.1 - manyV y x (1 - l) ≤ _
    split <;> omega
/-- the first number of blocks that come again -/
theorem first_in {f l e t : Int} (he : 0 < e) (hl : 0 < l) : t ≤ firstInV f l e t ∧ firstInV f l e t < t + e ∧ (firstInV f l e t - f) % e < l ∧ ∀ p, t ≤ p → p < firstInV f l e t → ¬ (p - f) % e < l := by
  unfold firstInV
  split
  · rename_i h
    exact ⟨by omega, by omega, h, fun p h1 h2 => by omega⟩
  · rename_i h
    have k0 := Int.emod_nonneg (f - t) (b := e) (by omega)
    have k1 := Int.emod_lt_of_pos (f - t) he
    have kd := emod_dvd_sub (f - t) e
    have m0 := Int.emod_nonneg (t - f) (b := e) (by omega)
    have m1 := Int.emod_lt_of_pos (t - f) he
    have md := emod_dvd_sub (t - f) e
    obtain ⟨k, ek⟩ : ∃ k, (f - t) % e = k := ⟨_, rfl⟩
    obtain ⟨m, em⟩ : ∃ m, (t - f) % e = m := ⟨_, rfl⟩
    rw [ek] at k0 k1 kd
    rw [em] at m0 m1 md h
    rw [ek]
    have km : k + m = e := by
      have d := Int.dvd_add kd md
      have d2 : e ∣ (k + m - e) := by
        have := Int.dvd_neg.mpr (Int.dvd_add d (Int.dvd_refl e))
        rw [show -(f - t - k + (t - f - m) + e) = k + m - e by omega] at this
        exact this
      have := dvd_zero d2 (by omega) (by omega)
      omega
    refine ⟨by omega, by omega, ?_, fun p h1 h2 => ?_⟩
    · rw [emod_is (w := 0) (Int.dvd_neg.mpr kd) (by omega) he (by omega)]; exact hl
    · rw [emod_is (w := m + (p - t)) md (by omega) (by omega) (by omega)]
      omega
/-- at its departure and just behind it -/
theorem lead_top (hx : x.ok) (hy : y.ok) (hd : x.1 ∣ y.1) : leadT x y y.2.1 = topV x y := by
  have g := gap_rng (y := y) hx
  rw [lead_eq hx hy hd, Int.sub_self, Int.zero_emod, Int.add_zero, Int.ediv_eq_zero_of_lt g.1 g.2, Int.mul_zero, Int.sub_zero]
theorem behind_wait (hy : y.ok) : (y.2.1 - (y.2.1 + 1)) % y.1 = y.1 - 1 := by
  have := hy.e1
  exact emod_is (y := -y.1) ⟨-1, by omega⟩ (by omega) (by omega) (by omega)
theorem lead_low (hx : x.ok) (hy : y.ok) (hd : x.1 ∣ y.1) : leadT x y (y.2.1 + 1) = lowV x y := by
  rw [lead_eq hx hy hd, behind_wait hy]
  unfold lowV stepsV
  rw [show gapV x y + (y.1 - 1) = gapV x y + y.1 - 1 by omega, Int.mul_comm]
theorem steps_rng (hx : x.ok) (hy : y.ok) : 0 ≤ stepsV x y := by
  have g := gap_rng (y := y) hx
  have := hy.e1
  exact Int.ediv_nonneg (by omega) (by omega)
theorem lead_vals (hx : x.ok) (hy : y.ok) (hd : x.1 ∣ y.1) (p : Int) : ∃ j : Int, 0 ≤ j ∧ j ≤ stepsV x y ∧ leadT x y p = topV x y - j * x.1 := by
  have e1 := hx.e1
  have g := gap_rng (y := y) hx
  have w0 := Int.emod_nonneg (y.2.1 - p) (b := y.1) (by have := hy.e1; omega)
  have w1 := Int.emod_lt_of_pos (y.2.1 - p) hy.e1
  refine ⟨(gapV x y + (y.2.1 - p) % y.1) / x.1, Int.ediv_nonneg (by omega) (by omega), Int.ediv_le_ediv e1 (by omega), ?_⟩
  rw [lead_eq hx hy hd, Int.mul_comm]
theorem mul_steps {a b c : Int} (h : a ≤ b) (hc : 0 ≤ c) : a * c ≤ b * c := Int.mul_le_mul_of_nonneg_right h hc
theorem lead_rng (hx : x.ok) (hy : y.ok) (hd : x.1 ∣ y.1) (p : Int) : lowV x y ≤ leadT x y p ∧ leadT x y p ≤ topV x y := by
  obtain ⟨j, h0, h1, e⟩ := lead_vals hx hy hd p
  have a := mul_steps h1 (Int.le_of_lt hx.e1)
  have b := Int.mul_nonneg h0 (Int.le_of_lt hx.e1)
  unfold lowV
  omega
/-- what differences tells -/
structure DiffOk (x y : T3) : Prop where
  rng : ∀ p, (diffsV x y).1 ≤ leadT x y p ∧ leadT x y p ≤ (diffsV x y).2.1
  low : ∃ p, leadT x y p = (diffsV x y).1
  top : ∃ p, leadT x y p = (diffsV x y).2.1
theorem lead_neg (x y : T3) (p : Int) : leadT y x p = -leadT x y p := by show y.arr p - x.arr p = -(x.arr p - y.arr p); omega
theorem diff_ok (hx : x.ok) (hy : y.ok) (f : FitI x.1 y.1) : DiffOk x y := by
  by_cases h : x.1 ≤ y.1
  · have hd := small_dvd hx hy f h
    have e : diffsV x y = (lowV x y, topV x y, if stepsV x y > 0 then x.1 else 0) := by unfold diffsV; rw [if_pos h]
    refine ⟨fun p => ?_, ⟨y.2.1 + 1, ?_⟩, ⟨y.2.1, ?_⟩⟩ <;> rw [e]
    · exact lead_rng hx hy hd p
    · exact lead_low hx hy hd
    · exact lead_top hx hy hd
  · have hd := small_dvd hy hx (f.elim .inr .inl) (by omega)
    have e : diffsV x y = (-topV y x, -lowV y x, if stepsV y x > 0 then y.1 else 0) := by unfold diffsV; rw [if_neg h]
    refine ⟨fun p => ?_, ⟨x.2.1, ?_⟩, ⟨x.2.1 + 1, ?_⟩⟩ <;> rw [e]
    · have := lead_rng hy hx hd p
      have := lead_neg y x p
      show -topV y x ≤ leadT x y p ∧ leadT x y p ≤ -lowV y x
      omega
    · have := lead_top hy hx hd
      have := lead_neg y x x.2.1
      show leadT x y x.2.1 = -topV y x
      omega
    · have := lead_low hy hx hd
      have := lead_neg y x (x.2.1 + 1)
      show leadT x y (x.2.1 + 1) = -lowV y x
      omega
/-- the worst start -/
theorem block_top (hx : x.ok) (hy : y.ok) (f : FitI x.1 y.1) : 0 < (blockV x y (diffsV x y).2.1).2 := by
  obtain ⟨p, hp⟩ := (diff_ok hx hy f).top
  have k := (block_iff hx hy f p (diffsV x y).2.1).mp (by omega)
  have := Int.emod_nonneg (p - (blockV x y (diffsV x y).2.1).1) (b := bigE x y) (by have := bigE_pos hx hy; omega)
  omega
theorem worst_ok (hx : x.ok) (hy : y.ok) (f : FitI x.1 y.1) : 0 ≤ worstV x y ∧ worstV x y < bigE x y ∧ leadT x y (worstV x y) = (diffsV x y).2.1 ∧ ∀ p, 0 ≤ p → p < worstV x y → leadT x y p < (diffsV x y).2.1 := by
  have e := bigE_pos hx hy
  obtain ⟨a, b, c, d⟩ := first_in (f := (blockV x y (diffsV x y).2.1).1) (t := 0) e (block_top hx hy f)
  have r := (diff_ok hx hy f).rng
  refine ⟨a, by unfold worstV; omega, ?_, fun p h0 h1 => ?_⟩
  · have := (block_iff hx hy f (worstV x y) (diffsV x y).2.1).mpr c
    have := (r (worstV x y)).2
    omega
  · have := d p h0 h1
    rw [← block_iff hx hy f] at this
    omega
end
end Xi

/-! ## Fr3 -/
/-! The best departures of a leg of a route. -/
namespace Xi
theorem join_fit2 {xs ys : List T3} (hx : ∀ x ∈ xs, x.ok) (fx : FitsT xs) (hy : ∀ x ∈ ys, x.ok) (fy : FitsT ys) (f : ∀ x ∈ xs, ∀ y ∈ ys, FitI x.1 y.1) : FitI (joinT xs).1 (joinT ys).1 := by
  rcases (join_ok hx fx).mem with e | ⟨x, mx, e⟩
  · rw [e]; exact .inl (Int.one_dvd _)
  · rcases (join_ok hy fy).mem with e2 | ⟨y, my, e2⟩
    · rw [e2]; exact .inr (Int.one_dvd _)
    · rw [e, e2]; exact f x mx y my
theorem join_fit1 {xs : List T3} {y : T3} (hx : ∀ x ∈ xs, x.ok) (fx : FitsT xs) (f : ∀ x ∈ xs, FitI x.1 y.1) : FitI (joinT xs).1 y.1 := by
  rcases (join_ok hx fx).mem with e | ⟨x, mx, e⟩
  · rw [e]; exact .inl (Int.one_dvd _)
  · rw [e]; exact f x mx
/-- a leg between what is before and what is behind -/
structure Mid (b x a : T3) : Prop where
  ob : b.ok
  ox : x.ok
  oa : a.ok
  bx : FitI b.1 x.1
  ba : FitI b.1 a.1
  xa : FitI x.1 a.1
theorem mid_of {xs ys : List T3} {x : T3} (ho : ∀ y ∈ xs ++ x :: ys, y.ok) (hf : FitsT (xs ++ x :: ys)) : Mid (joinT xs) x (joinT ys) := by
  obtain ⟨f1, f2, f3⟩ := List.pairwise_append.mp hf
  obtain ⟨f4, f5⟩ := List.pairwise_cons.mp f2
  have h1 : ∀ y ∈ xs, y.ok := fun y hy => ho y (List.mem_append_left _ hy)
  have h2 : ∀ y ∈ ys, y.ok := fun y hy => ho y (List.mem_append_right _ (List.mem_cons_of_mem _ hy))
  have h3 : x.ok := ho x (List.mem_append_right _ List.mem_cons_self)
  refine ⟨(join_ok h1 f1).ok, h3, (join_ok h2 f5).ok, join_fit1 h1 f1 fun y hy => f3 y hy x List.mem_cons_self, join_fit2 h1 f1 h2 f5 fun y hy z hz => f3 y hy z (List.mem_cons_of_mem _ hz), (join_fit1 h2 f5 fun y hy => (f4 y hy).sym).sym⟩
theorem join3 {xs ys : List T3} {x : T3} (ho : ∀ y ∈ xs ++ x :: ys, y.ok) (hf : FitsT (xs ++ x :: ys)) : joinT (xs ++ x :: ys) = jnT (jnT (joinT xs) x) (joinT ys) := by
  have m := mid_of ho hf
  obtain ⟨f1, f2, f3⟩ := List.pairwise_append.mp hf
  obtain ⟨f4, f5⟩ := List.pairwise_cons.mp f2
  have h1 : ∀ y ∈ xs, y.ok := fun y hy => ho y (List.mem_append_left _ hy)
  have h2 : ∀ y ∈ ys, y.ok := fun y hy => ho y (List.mem_append_right _ (List.mem_cons_of_mem _ hy))
  have o := jn_ok m.ob m.ox
  refine (join_uniq ho hf (jn_ok o m.oa) fun p => ?_).symm
  rw [jn_arr o m.oa (jn_fit m.ba m.xa), jn_arr m.ob m.ox m.bx, join_arr h1 f1, join_arr h2 f5, endT_app]
  rfl
abbrev leastT (b x a : T3) : Int := leastW b.1 b.2.1 b.2.2 x.2.2 a.1 a.2.1
abbrev bestT (b x a : T3) : T3 := (bestF b.1 b.2.1 b.2.2 x.1 x.2.2 a.1 a.2.1, bestL b.1 b.2.1 b.2.2 x.1 x.2.2 a.1 a.2.1, bestP b.1 x.1 a.1)
/-- the least ride -/
abbrev bestR (b x a : T3) : Int := b.2.2 + x.2.2 + a.2.2 + leastT b x a
abbrev bestIs (b x a : T3) (t : Int) : Prop := (t - (bestT b x a).1) % (bestT b x a).2.2 < (bestT b x a).2.1
abbrev bestC (b x a : T3) : Int := x.1 / (bestT b x a).2.2 * (bestT b x a).2.1
abbrev bestN (b x a : T3) (n : Int) : Int := nthV (bestT b x a).1 (bestT b x a).2.1 (bestT b x a).2.2 n
section
variable {b x a : T3}
theorem mid_rng (m : Mid b x a) : 0 < (bestT b x a).2.2 ∧ (bestT b x a).2.2 ∣ x.1 ∧ 0 ≤ (bestT b x a).1 ∧ (bestT b x a).1 < (bestT b x a).2.2 ∧ 0 < (bestT b x a).2.1 ∧ (bestT b x a).2.1 ≤ (bestT b x a).2.2 :=
  best_rng m.ob.e1 m.ox.e1 m.oa.e1 m.bx m.xa
theorem mid_ride (m : Mid b x a) (t : Int) : bestR b x a ≤ (jnT (jnT b (x.1, t, x.2.2)) a).2.2 ∧ ((jnT (jnT b (x.1, t, x.2.2)) a).2.2 = bestR b x a ↔ bestIs b x a t) :=
  best_num (bt := b.2.1) (br := b.2.2) (xt := t) (xr := x.2.2) (at_ := a.2.1) (ar := a.2.2) m.ob.e1 m.ox.e1 m.oa.e1 m.bx m.ba m.xa
theorem mid_first (m : Mid b x a) : bestIs b x a (bestT b x a).1 ∧ 0 ≤ (bestT b x a).1 ∧ (bestT b x a).1 < x.1 := by
  obtain ⟨h1, h2, h3, h4, h5, h6⟩ := mid_rng m
  have := Int.le_of_dvd m.ox.e1 h2
  refine ⟨?_, h3, Int.lt_of_lt_of_le h4 this⟩
  show ((bestT b x a).1 - (bestT b x a).1) % (bestT b x a).2.2 < (bestT b x a).2.1
  rw [Int.sub_self, Int.zero_emod]
  exact h5
theorem mid_mul (m : Mid b x a) : x.1 = x.1 / (bestT b x a).2.2 * (bestT b x a).2.2 := (Int.ediv_mul_cancel (mid_rng m).2.1).symm
theorem mid_count (m : Mid b x a) : 1 ≤ bestC b x a ∧ bestC b x a ≤ x.1 := by
  obtain ⟨h1, h2, h3, h4, h5, h6⟩ := mid_rng m
  have e := mid_mul m
  have x1 := m.ox.e1
  have q1 : 0 < x.1 / (bestT b x a).2.2 := Int.ediv_pos_of_pos_of_dvd x1 (Int.le_of_lt h1) h2
  refine ⟨Int.mul_pos q1 h5, ?_⟩
  have := Int.mul_le_mul_of_nonneg_left h6 (Int.le_of_lt q1)
  exact Int.le_trans this (Int.le_of_eq e.symm)
theorem mid_nth (m : Mid b x a) {n : Int} (n0 : 0 ≤ n) (n1 : n < bestC b x a) : 0 ≤ bestN b x a n ∧ bestN b x a n < x.1 ∧ bestIs b x a (bestN b x a n) := by
  obtain ⟨h1, h2, h3, h4, h5, h6⟩ := mid_rng m
  have := nth_ok (K := x.1 / (bestT b x a).2.2) h3 h4 h5 h6 n0 n1
  rw [← mid_mul m] at this
  exact this
theorem mid_lt (m : Mid b x a) {i j : Int} (h : i < j) : bestN b x a i < bestN b x a j := by
  obtain ⟨h1, h2, h3, h4, h5, h6⟩ := mid_rng m
  exact nth_lt h3 h4 h5 h6 h
theorem mid_met (m : Mid b x a) {t : Int} (t0 : 0 ≤ t) (t1 : t < x.1) (h : bestIs b x a t) : ∃ n, 0 ≤ n ∧ n < bestC b x a ∧ bestN b x a n = t := by
  obtain ⟨h1, h2, h3, h4, h5, h6⟩ := mid_rng m
  refine nth_met (K := x.1 / (bestT b x a).2.2) h3 h4 h5 h6 t0 ?_ h
  rw [← mid_mul m]
  exact t1
/-- all best departures, ascending -/
theorem mid_list (m : Mid b x a) : ((List.range x.1.toNat).filter fun (i : Nat) => decide (bestIs b x a i)).map (fun (i : Nat) => (i : Int)) = (List.range (bestC b x a).toNat).map fun (n : Nat) => bestN b x a n := by
  refine sorted_uniq ?_ ?_ fun j => ?_
  · rw [List.pairwise_map]
    exact (List.pairwise_lt_range.filter _).imp fun {i j} h => by omega
  · rw [List.pairwise_map]
    exact List.pairwise_lt_range.imp fun {i j} h => mid_lt m (by omega)
  · rw [List.mem_map, List.mem_map]
    constructor
    · rintro ⟨i, hi, rfl⟩
      obtain ⟨h1, h2⟩ := List.mem_filter.mp hi
      have := List.mem_range.mp h1
      obtain ⟨n, n0, n1, e⟩ := mid_met m (t := (i : Int)) (by omega) (by omega) (of_decide_eq_true h2)
      exact ⟨n.toNat, List.mem_range.mpr (by omega), by rw [show ((n.toNat : Nat) : Int) = n by omega]; exact e⟩
    · rintro ⟨n, hn, rfl⟩
      have := List.mem_range.mp hn
      obtain ⟨h1, h2, h3⟩ := mid_nth m (n := (n : Int)) (by omega) (by omega)
      refine ⟨(bestN b x a n).toNat, List.mem_filter.mpr ⟨List.mem_range.mpr (by omega), decide_eq_true ?_⟩, by omega⟩
      rw [show (((bestN b x a n).toNat : Nat) : Int) = bestN b x a n by omega]
      exact h3
end
/-- a leg of a route, with another departure -/
abbrev swapN (ns : List T3) (i : Nat) (x : T3) (t : Int) : List T3 := ns.take i ++ (x.1, t, x.2.2) :: ns.drop (i + 1)
section
variable {ns : List T3} {i : Nat} {x : T3}
theorem cut_at (hx : ns[i]? = some x) : ns = ns.take i ++ x :: ns.drop (i + 1) := by
  obtain ⟨h, e⟩ := List.getElem?_eq_some_iff.mp hx
  rw [← e, ← List.drop_eq_getElem_cons h, List.take_append_drop]
theorem leg_mid (h : RtOk ns) (hx : ns[i]? = some x) : Mid (joinT (ns.take i)) x (joinT (ns.drop (i + 1))) := by
  have e := cut_at hx
  refine mid_of (fun y hy => h.ok y (by rw [e]; exact hy)) ?_
  rw [← e]; exact h.fit
theorem swap_rt (h : RtOk ns) (hx : ns[i]? = some x) {t : Int} (t0 : 0 ≤ t) (t1 : t < x.1) : RtOk (swapN ns i x t) := by
  have e := cut_at hx
  have hl : i < ns.length := (List.getElem?_eq_some_iff.mp hx).1
  have xm := List.mem_of_getElem? hx
  have n2 := h.n2
  refine h.mem (fun y hy => ?_) (fun y hy => ?_) ?_ ?_
  · rcases List.mem_append.mp hy with hy | hy
    · exact ⟨y, List.mem_of_mem_take hy, rfl⟩
    · rcases List.mem_cons.mp hy with rfl | hy
      · exact ⟨x, xm, rfl⟩
      · exact ⟨y, List.mem_of_mem_drop hy, rfl⟩
  · rcases List.mem_append.mp hy with hy | hy
    · exact h.ok y (List.mem_of_mem_take hy)
    · rcases List.mem_cons.mp hy with rfl | hy
      · have o := h.ok x xm
        exact ⟨o.e1, t0, t1, o.r1⟩
      · exact h.ok y (List.mem_of_mem_drop hy)
  · rw [List.length_append, List.length_cons]; omega
  · rw [List.length_append, List.length_cons, List.length_take, List.length_drop]; omega
theorem swap_ride (h : RtOk ns) (hx : ns[i]? = some x) {t : Int} (t0 : 0 ≤ t) (t1 : t < x.1) : (joinT (swapN ns i x t)).2.2 = (jnT (jnT (joinT (ns.take i)) (x.1, t, x.2.2)) (joinT (ns.drop (i + 1)))).2.2 := by
  have r := swap_rt h hx t0 t1
  rw [join3 r.ok r.fit]
/-- what the law sees: the rides of all departures -/
theorem leg_best (h : RtOk ns) (hx : ns[i]? = some x) {t : Int} (t0 : 0 ≤ t) (t1 : t < x.1) : bestR (joinT (ns.take i)) x (joinT (ns.drop (i + 1))) ≤ (joinT (swapN ns i x t)).2.2 ∧ ((joinT (swapN ns i x t)).2.2 = bestR (joinT (ns.take i)) x (joinT (ns.drop (i + 1))) ↔ bestIs (joinT (ns.take i)) x (joinT (ns.drop (i + 1))) t) := by
  rw [swap_ride h hx t0 t1]
  exact mid_ride (leg_mid h hx) t
end
end Xi

/-! ## Rb -/
/-! for over range(a, b) with numbers of any size. -/
namespace Xi
open PySem PySem.Spec PyProof.Rows L2
theorem turn_long {P : Program} {w : World} {K : PySem.W.Frag} {tg : Expr} (it : Addr) (lo : Int) (n : Nat) : Turn P w K tg (Itr lo n) [it] it (fun i h => IsLongIter h it (lo + (i : Nat) * 1) ((n : Int) - (i : Nat)) 1) where
  mem := List.mem_singleton.mpr rfl
  obj := fun i h st b hb => by
    obtain rfl := List.mem_singleton.mp hb
    exact ⟨_, st, fun v z => by
      have z' : Data.fields _ = Data.cell v := z
      cases z'⟩
  keep := fun i h h' st k => k it (List.mem_singleton.mpr rfl) _ st
  item := fun X hP hw hK hc i pins s σ H E I hf st hg => by
    subst hP hw hK
    obtain ⟨f0, f1, f2, f3, f4, f5⟩ := hf it (List.mem_singleton.mpr rfl)
    refine (PySem.Walks.longrange (prog := X.prog) (w := X.w) (I.ok.hd hc) it lo 1 n).item i s _ _ hg st fun v h' tk hv st' kk => ?_
    obtain ⟨t, rfl⟩ := hv
    have I1 : Inv X pins σ H { s with heap := h', toks := tk } := I.turned (fun b o hb e => kk b o (fun z => hb (List.mem_singleton.mp z)) e) f0 f1 f3 f4 f5
    exact ⟨_, rfl, go_of (s := { s with heap := h', toks := tk }) (n := "longrange_iterator") st' rfl rfl (by decide) ⟨.int (lo + i), H, I1, ⟨t, by rw [Int.mul_one]⟩, ⟨rfl, rfl⟩, st', fun b hb => (hf b hb).1⟩⟩
  done := fun X hP hw hK hc i pins s σ H E I hf st hg => by
    subst hP hw hK
    obtain ⟨f0, f1, f2, f3, f4, f5⟩ := hf it (List.mem_singleton.mpr rfl)
    exact wpAny_pyNext_long_end (I.ok.hd hc) st (by have : n ≤ i := hg; omega) fun h' eb => ⟨rfl, I.turned (t' := s.toks) (fun b o hb e => eb b o hb e) f0 f1 f3 f4 f5⟩
  self := fun _ _ _ _ _ st h => wpAny_pyIter_longiter st h
section
variable {X : Cx} {tg : Expr}
theorem range_any {pins : List (Addr × Obj)} {σ : L2.St} {H : Hp} {s : Shared} {R : It → Hp → Prop} {E : Value → Shared → Prop} {lo hi : Int} {t u v : Tok} {tk : Nat} (I : Inv X pins σ H s)
    (q : R (Itr lo (hi - lo).toNat) H) : wpAny (model X.prog X.w) X.A (pyIter (.ref s.heap.objs.size)) (PIE X pins σ tg R) E { s with heap := s.heap.push { cls := .type "range", data := .fields #[.int lo t, .int hi u, .int 1 v] }, toks := tk } := by
  obtain ⟨h2, eh⟩ : ∃ h2, h2 = s.heap.push { cls := .type "range", data := .fields #[.int lo t, .int hi u, .int 1 v] } := ⟨_, rfl⟩
  have I1 : Inv X pins σ H { s with heap := h2, toks := tk } := I.kept fun b o e => by rw [eh]; exact Heap.get?_push_of_some _ e
  have hr : IsRange h2 s.heap.objs.size lo hi 1 t u v := by rw [eh]; exact IsRange.new ..
  rw [← eh]
  have e1 : lo + ((0 : Nat) : Int) * 1 = lo := by simp
  have e2 : (((hi - lo).toNat : Nat) : Int) - ((0 : Nat) : Int) = Builtin.Range.rangeSize lo hi 1 := by rw [rangeSize_one]; split <;> omega
  have fp : ∀ b ∈ [h2.objs.size], FpOk X pins H b := fun b hb => by
    obtain rfl := List.mem_singleton.mp hb
    exact I1.fpOk (Nat.le_refl _) (I1.hok.fresh (Nat.le_refl _))
  cases hs : Builtin.Range.small lo hi 1 with
  | true =>
    refine wpAny_pyIter_range hr hs ?_
    refine ⟨h2.objs.size, [h2.objs.size], _, _, H, rfl, I1.kept (t' := tk) fun b o e => Heap.get?_push_of_some _ e, turn_range _ lo (hi - lo).toNat, ?_, fp, q⟩
    show IsRangeIter _ _ (lo + ((0 : Nat) : Int) * 1) ((((hi - lo).toNat : Nat) : Int) - ((0 : Nat) : Int)) 1
    rw [e1, e2]
    exact Heap.get?_push_size _ rfl
  | false =>
    refine wpAny_pyIter_longrange hr hs ?_
    refine ⟨h2.objs.size, [h2.objs.size], _, _, H, rfl, I1.kept (t' := tk) fun b o e => Heap.get?_push_of_some _ e, turn_long _ lo (hi - lo).toNat, ?_, fp, q⟩
    show IsLongIter _ _ (lo + ((0 : Nat) : Int) * 1) ((((hi - lo).toNat : Nat) : Int) - ((0 : Nat) : Int)) 1
    rw [e1, e2]
    exact Heap.get?_push_size _ rfl
def iRngA (ta : TA) : TI := fun σ H R => ta σ H fun vs H1 => ∃ i j : Int, vs = [.int i, .int j] ∧ R (Itr i (j - i).toNat) H1
theorem pi_rangeA {a b : Expr} {ta : TA} {p pos : Pos} (hg : Gl X "range") (hm : X.mg "range" = none) (ha : PA X [a, b] ta) (hs : starEach [a, b] X.env = [(false, eval a X.env), (false, eval b X.env)]) (hs2 : starEach [b] X.env = [(false, eval b X.env)]) :
    PI X tg (.Call (.Name "range" p) [a, b] [] pos) (iRngA ta) := by
  refine ⟨fun pins s σ H R I h => ?_⟩
  refine Call_ (ld_blt I hg hm boot_range (PyProof.Rows.callWith_type1 (thn (ha.run pos pins s σ H _ I h) fun us s1 ⟨vs, H1, I1, r1, q1⟩ => ?_) (by rw [hs, hs2]) (by rw [hs2]; rfl)))
  obtain ⟨i, j, e, q⟩ := q1
  subst e
  obtain ⟨u, u', rfl, ru, ru'⟩ := r1.two
  obtain ⟨t, rfl⟩ := ru
  obtain ⟨t', rfl⟩ := ru'
  exact call_range_2 (range_any I1 q)
end
section
variable {X : Cx} {H0 : Hp} {M : Addr → Prop} {L : LL} {a b tg : Expr} {σ : L2.St} {p pos : Pos}
theorem ki_rangeA {P : It → LL → Prop} (hg : Gl X "range") (hm : X.mg "range" = none) (hs : starEach [a, b] X.env = [(false, eval a X.env), (false, eval b X.env)]) (hs2 : starEach [b] X.env = [(false, eval b X.env)])
    (h : ke X H0 M a σ L fun v L1 => ke X H0 M b σ L1 fun w L2 => ∃ i j : Int, v = .int i ∧ w = .int j ∧ ∀ J, Walks H0 M (j - i).toNat (fun _ => True) (fun t L x L' => L' = L ∧ x = .int (i + t)) J → P J L2) : ki X H0 M tg (.Call (.Name "range" p) [a, b] [] pos) σ L P := fun H z =>
  wi_of (pi_rangeA hg hm (pa_cons pe_we (pa_cons pe_we pa_nil hs2) (by rw [hs, hs2])) hs hs2) (we_mono (h H z) fun v H1 ⟨L1, z1, k⟩ => we_mono (k H1 z1) fun w H2 ⟨L2, z2, i, j, ev, ew, k⟩ => ⟨i, j, by rw [ev, ew], L2, z2, k _ ⟨fun i L H hi _ z => walk_range.goes i H hi trivial, fun L H g z => walk_range.stops H trivial, fun t L H x H' hi g z y => by
    obtain ⟨e, y2⟩ := walk_range.yields t H x H' hi trivial y
    subst e
    exact ⟨L, z, rfl, y2⟩⟩⟩)
end
end Xi

/-! ## Fr4 -/
/-! Slices of tuples, divmod, lists over range(a, b), repr of long lists. -/
namespace Xi
open PySem PySem.Spec PyProof.Rows L2
section
variable {X : Cx} {H0 : Hp} {M : Addr → Prop} {L : LL} {Q : V → LL → Prop} {e : Expr} {σ : L2.St} {pos : Pos}
/-- t[lo:hi], a tuple, not all of it -/
theorem ke_slT {lo hi : Option Expr} {p2 : Pos} (h : ke X H0 M e σ L fun x L1 => ko X H0 M lo σ L1 fun l L2 => ko X H0 M hi σ L2 fun u L3 => ∃ p xs, x = .ref p ∧ At L3 p (.tup xs) ∧ ¬ (HT.sIx xs.length 0 l = 0 ∧ HT.sIx xs.length xs.length u = xs.length) ∧ New H0 (.tup (cutV xs l u)) L3 Q) :
    ke X H0 M (.Subscript e (.Slice lo hi none p2) pos) σ L Q := fun H z =>
  we_of (pe_slice sl_tup pe_we po_wopt po_wopt) (we_mono (h H z) fun x H1 ⟨L1, z1, k⟩ => ko_up z1 k fun l L2 H2 z2 k2 => ko_up z2 k2 fun u L3 H3 z3 ⟨p, xs, ex, ia, hn, k3⟩ =>
    ⟨p, xs, ex, z3.st ia, hn, new_up z3 k3⟩)
/-- divmod of a number that is not too great -/
theorem rc_divmod {i j : Int} (h0 : 0 ≤ i) (h1 : i ≤ 1000000000000000000000000000000000000000000000000000000000000) (hj : 0 < j) (h : New H0 (.tup [.int (i / j), .int (i % j)]) L Q) : rc X H0 M (.builtin "divmod") [.int i, .int j] L Q := rc_of call_divmodW fun H z => ⟨i, j, rfl, divp_ok hj (by
  have := PyProof.Rows.intBits_le (a := i) (k := 200) (Nat.lt_of_le_of_lt (show i.natAbs ≤ 1000000000000000000000000000000000000000000000000000000000000 by omega) (by decide +kernel))
  omega), new_up z h⟩
theorem cb_divmod {p : Pos} {a b : Expr} (hg : Gl X "divmod") (hm : X.mg "divmod" = none) (he : starEach [a, b] X.env = (false, eval a X.env) :: starEach [b] X.env) (hpl : (backTo pos (starEach [b] X.env)).any (·.1) = false) (h : ka X H0 M [a, b] σ L fun vs L1 => rc X H0 M (.builtin "divmod") vs L1 Q) : ke X H0 M (.Call (.Name "divmod" p) [a, b] [] pos) σ L Q :=
  ke_callB hg hm (by rfl) he hpl h
end
/-- a captured name: the list is made first, then bound -/
theorem sw_cell {elt : Expr} {gs : List Comprehension} {scope : Scope} {pos py : Pos} {y : Str} {l : Nat} {env : Env} (hy : env.scope.names.lookup y = some .cell) : swapsWith (.ListComp elt gs scope pos) (some (.Name y py)) l env = pure false := by
  have ky : env.kindOf y = some .cell := hy
  have e : ((some NameKind.cell == some NameKind.local) : Bool) = false := by decide
  unfold swapsWith
  simp only [ky, e, Bool.and_false, Bool.false_and]
section
variable {α : Type} {v : α → V} {d : α → PyData}
theorem fls_map : ∀ {xs : List α}, (∀ x ∈ xs, Fl (v x) (d x)) → Fls (xs.map v) (xs.map d)
  | [], _ => .nil
  | x :: r, h => .cons (h x List.mem_cons_self) (fls_map fun y hy => h y (List.mem_cons_of_mem _ hy))
end
section
variable {X : Cx} {elt tg iter : Expr} {scope : Scope} {pos : Pos} {H0 : Hp} {M : Addr → Prop} {L : LL} {σ : L2.St} {Q : V → LL → Prop} {P : Program} {w : World} {K : PySem.W.Frag} {mg : Str → Option Value} {base : Heap} {k : Nat} {N Nv Nw : List Str} {sc : Scope}
/-- [f(a + i) for .. in range(a, b)] -/
theorem Body.klR2 {a b : Expr} {p pr : Pos} (bd : Body X P w K mg base k N Nv sc) (ns : Ns X N Nw) (own : List (Str × Nat)) (Nb No : List Str) (f : Int → V) (vis : ∀ x ∈ Nb, (relS scope sc).names.lookup x = some .local ∨ (relS scope sc).names.lookup x = some .cell ∨ (relS scope sc).names.lookup x = some .free) (pl : ∀ x ∈ Nb, (x == ("__debug__" : Str)) = false ∧ (x == ("__classdict__" : Str)) = false) (lc : ∀ x ∈ No, (relS scope sc).names.lookup x = some .local)
    (hg : Gl X "range") (hm : X.mg "range" = none) (hse : starEach [a, b] X.env = [(false, eval a X.env), (false, eval b X.env)]) (hse2 : starEach [b] X.env = [(false, eval b X.env)])
    (h : ke X H0 M a σ L fun w1 L0 => ke X H0 M b σ L0 fun w2 L1 => ∃ lo hi : Int, w1 = .int lo ∧ w2 = .int hi ∧ -1000 ≤ lo ∧ lo ≤ 1000 ∧ -1000 ≤ hi ∧ hi ≤ 1000 ∧
      (∀ i : Int, lo ≤ i → i < hi → ∀ D acc, H0 D = none → ∀ B, Body B P w K mg base k N Nb (relS scope sc) → Ns B N No → kg B H0 M tg (.int i) (wipe σ (own.map (·.2))) ((D, acc) :: L1) fun σ2 L2 => wipe σ2 (own.map (·.2)) = wipe σ (own.map (·.2)) ∧
        ∀ B, Body B P w K mg base k N Nb (relS scope sc) → ke B H0 M elt σ2 L2 fun y L4 => y = f i ∧ Sub ((D, acc) :: L1) L4) ∧
      ∀ D, H0 D = none → Q (.ref D) ((D, .lst ((rgI2 lo hi).map f)) :: L1)) :
    kLc X H0 M elt tg (.Call (.Name "range" p) [a, b] [] pr) [] scope own σ L Q := by
  refine Body.kl bd ns own Nb No vis pl lc (ki_range2 hg hm hse hse2 fun H z => we_mono (h H z) fun v H1 ⟨L0, z0, q0⟩ => ⟨L0, z0, fun H2 z2 => we_mono (q0 H2 z2) fun v2 H3 ⟨L1, z1, lo, hi, ev, ev2, b1, b2, b3, b4, st, en⟩ => ⟨L1, z1, lo, hi, ev, ev2, by omega, fun J wk D nD => ?_⟩⟩)
  refine ⟨_, _, _, fun i L => L = (D, .lst (((rgI2 lo hi).take i).map f)) :: L1, wk, rfl, fun _ _ _ _ => trivial, fun i x L L' hi' e hx B bB nB => ?_, fun L e => ?_⟩
  · obtain ⟨e2, hx⟩ := hx
    subst e2 e hx
    have key := st (lo + (i : Int)) (by omega) (by omega) D (.lst (((rgI2 lo hi).take i).map f)) nD B bB nB
    refine fun H z pins s u I r => thn (key H z pins s u I r) fun _ s' ⟨σ', H', I', L2, z2, e4, q⟩ => ⟨σ', H', I', L2, z2, e4, fun B2 bB2 => ?_⟩
    show kf _ _ _ [] _ _ _
    refine kf_nil ?_
    rw [if_pos rfl]
    intro B3 bB3
    refine fun H z => we_mono (q B3 bB3 H z) fun y2 H2 w => ?_
    obtain ⟨L4, z4, e7, e8⟩ := w
    subst e7
    have hget : (rgI2 lo hi)[i]? = some (lo + (i : Int)) := by
      unfold rgI2
      rw [List.getElem?_map, List.getElem?_range hi']
      rfl
    refine ⟨_, z4.sub e8, _, _, .here, ?_, _, .refl _, ?_⟩
    · rw [List.length_map, List.length_take]
      exact Nat.lt_of_le_of_lt (Nat.le_trans (Nat.min_le_left _ _) (show i ≤ 3000 by omega)) (by decide)
    · dsimp only
      rw [take_snoc hget, List.map_append]
      rfl
  · subst e
    have := en D nD
    rw [show (rgI2 lo hi).take (hi - lo).toNat = rgI2 lo hi from List.take_of_length_le (by unfold rgI2; rw [List.length_map, List.length_range]; exact Nat.le_refl _)]
    exact this
theorem Body.lcR2 {a b : Expr} {p pr : Pos} (bd : Body X P w K mg base k N Nv sc) (ns : Ns X N Nw) (own : List (Str × Nat)) (Nb No : List Str) (f : Int → V) (ok : BlkOk N sc scope own) (vis : ∀ x ∈ Nb, (relS scope sc).names.lookup x = some .local ∨ (relS scope sc).names.lookup x = some .cell ∨ (relS scope sc).names.lookup x = some .free) (pl : ∀ x ∈ Nb, (x == ("__debug__" : Str)) = false ∧ (x == ("__classdict__" : Str)) = false) (lc : ∀ x ∈ No, (relS scope sc).names.lookup x = some .local)
    (hg : Gl X "range") (hm : X.mg "range" = none) (hse : starEach [a, b] X.env = [(false, eval a X.env), (false, eval b X.env)]) (hse2 : starEach [b] X.env = [(false, eval b X.env)]) (hs : ∀ x, foldedSetIterable (.Call (.Name "range" p) [a, b] [] pr) X.env x = pure x)
    (h : ke X H0 M a σ L fun w1 L0 => ke X H0 M b σ L0 fun w2 L1 => ∃ lo hi : Int, w1 = .int lo ∧ w2 = .int hi ∧ -1000 ≤ lo ∧ lo ≤ 1000 ∧ -1000 ≤ hi ∧ hi ≤ 1000 ∧
      (∀ i : Int, lo ≤ i → i < hi → ∀ D acc, H0 D = none → ∀ B, Body B P w K mg base k N Nb (relS scope sc) → Ns B N No → kg B H0 M tg (.int i) (wipe σ (own.map (·.2))) ((D, acc) :: L1) fun σ2 L2 => wipe σ2 (own.map (·.2)) = wipe σ (own.map (·.2)) ∧
        ∀ B, Body B P w K mg base k N Nb (relS scope sc) → ke B H0 M elt σ2 L2 fun y L4 => y = f i ∧ Sub ((D, acc) :: L1) L4) ∧
      ∀ D, H0 D = none → Q (.ref D) ((D, .lst ((rgI2 lo hi).map f)) :: L1)) :
    ke X H0 M (.ListComp elt [⟨tg, .Call (.Name "range" p) [a, b] [] pr, [], 0⟩] scope pos) σ L Q :=
  ke_kl bd.calm (by rw [ns.eq]; exact ns.nd) (by rw [ns.eq, bd.scope]; exact ok) hs (Body.klR2 bd ns own Nb No f vis pl lc hg hm hse hse2 h)
end
end Xi

/-! ## Txt -/
/-! Texts: str + str, f-strings, join; a while that is not entered; == of an instance with any other object; a display of a dict with one pair; a comprehension whose test fails for all. -/
namespace Xi
open PySem PySem.Spec PyProof.Rows L2 PySem.W
section
variable {X : Cx} {H0 : Hp} {M : Addr → Prop} {L : LL} {σ : L2.St} {Q : V → LL → Prop} {e o : Expr} {pos apos : Pos}
theorem ro_addS {x y : Str} (hz : x.length + y.length ≤ sizeLine) (h : Q (.str (x ++ y)) L) : ro X H0 M (binaryOp .Add) (.str x) (.str y) L Q := ro_of op_add_str fun _ z => ⟨x, y, rfl, rfl, hz, L, z, h⟩
/-- {x} of an f-string -/
def Fmt (x : V) (Q : V → LL → Prop) (L : LL) : Prop := (∃ y : Str, x = .str y ∧ y.length ≤ sizeLine ∧ Q (.str y) L) ∨ ∃ i : Int, x = .int i ∧ i.natAbs.log2 < 1920 ∧ Q (.str (toString i)) L
theorem ke_fmt (h : ke X H0 M e σ L fun x L1 => Fmt x Q L1) : ke X H0 M (.FormattedValue e (-1) none pos) σ L Q := fun H z =>
  we_of (pe_fmt pe_we) (we_mono (h H z) fun x H1 ⟨L1, z1, q⟩ => by
    rcases q with ⟨y, ex, hz, q⟩ | ⟨i, ex, hz, q⟩
    · exact .inl ⟨y, ex, hz, L1, z1, q⟩
    · exact .inr ⟨i, ex, hz, L1, z1, q⟩)
theorem fmt_str {y : Str} (hz : y.length ≤ sizeLine) (h : Q (.str y) L) : Fmt (.str y) Q L := .inl ⟨y, rfl, hz, h⟩
theorem fmt_int {i : Int} (hz : i.natAbs.log2 < 1920) (h : Q (.str (toString i)) L) : Fmt (.int i) Q L := .inr ⟨i, rfl, hz, h⟩
/-- the parts of an f-string -/
def kj (X : Cx) (H0 : Hp) (M : Addr → Prop) : List Expr → Str → L2.St → LL → (Str → LL → Prop) → Prop
  | [], acc, _, L, Q => Q acc L
  | e :: es, acc, σ, L, Q => ke X H0 M e σ L fun x L1 => ∃ y : Str, x = .str y ∧ (acc ++ y).length ≤ sizeLine ∧ kj X H0 M es (acc ++ y) σ L1 Q
theorem pj_we : ∀ es : List Expr, PJ X es (es.map (we X))
  | [] => .nil
  | _ :: r => .cons pe_we (pj_we r)
theorem kj_run : ∀ (es : List Expr) (acc : Str) (L : LL) (H : Hp) (Q : Str → LL → Prop), Hs H0 M L H → kj X H0 M es acc σ L Q → tJs (es.map (we X)) acc σ H fun out H1 => ∃ L1, Hs H0 M L1 H1 ∧ Q out L1
  | [], acc, L, H, Q, z, h => ⟨L, z, h⟩
  | e :: r, acc, L, H, Q, z, h => we_mono (h H z) fun x H1 ⟨L1, z1, y, ex, hz, k⟩ => ⟨y, ex, hz, kj_run r _ L1 H1 Q z1 k⟩
theorem ke_fs {v1 v2 : Expr} {rest : List Expr} (h : kj X H0 M (v1 :: v2 :: rest) Str.empty σ L fun out L1 => Q (.str out) L1) : ke X H0 M (.JoinedStr (v1 :: v2 :: rest) pos) σ L Q := fun H z =>
  we_of (pe_joined (pj_we _)) (kj_run _ _ L H _ z h)
theorem kj_nil {acc : Str} {Q : Str → LL → Prop} (h : Q acc L) : kj X H0 M [] acc σ L Q := h
theorem kj_cons {es : List Expr} {acc : Str} {Q : Str → LL → Prop} (h : ke X H0 M e σ L fun x L1 => ∃ y : Str, x = .str y ∧ (acc ++ y).length ≤ sizeLine ∧ kj X H0 M es (acc ++ y) σ L1 Q) : kj X H0 M (e :: es) acc σ L Q := h
/-- "..".join(xs), a list of strs -/
theorem ke_join (hs : starEach [e] X.env = [(false, eval e X.env)]) (hbase : attributeBase o "join" X.env (eval o X.env) = eval o X.env) (hline : (apos.endLine == pos.line) = true)
    (h : ke X H0 M o σ L fun x L1 => ∃ a : Str, x = .str a ∧ ke X H0 M e σ L1 fun y L2 => ∃ (p : Addr) (ys : List Str), y = .ref p ∧ At L2 p (.lst (ys.map V.str)) ∧ (ys.map (·.length)).sum + ys.length * a.length ≤ 16777216 ∧ Q (.str (Txt.join a ys)) L2) :
    ke X H0 M (.Call (.Attribute o "join" apos) [e] [] pos) σ L Q := fun H z =>
  we_of (pe_join pe_we pe_we hs hbase hline) (we_mono (h H z) fun x H1 ⟨L1, z1, a, ex, k⟩ => ⟨⟨a, ex⟩, we_mono (k H1 z1) fun y H2 ⟨L2, z2, p, ys, ey, ia, hz, q⟩ => ⟨a, p, ys, ex, by rw [ey], .inl (z2.sq ia), hz, L2, z2, q⟩⟩)
/-- a while whose test fails at once -/
theorem ks_while0 {c : Expr} {body : List Stmt} {nx : L2.St → LL → Prop} {rt : V → LL → Prop} {bk ct : L2.St → LL → Prop} (hp : PassesOwn (model X.prog X.w) X.A X.env X.xe) (h : kt X H0 M c σ L fun k L1 => k = false ∧ nx σ L1) : ks X H0 M (.While c body [] pos) nx rt bk ct σ L :=
  ks_of (ps_while hp pt_wt (pb_wb (X := X) (ss := body))) fun H z => ⟨fun m σ' H' => m = 0 ∧ σ' = σ ∧ H' = H, ⟨0, rfl, rfl, rfl⟩, fun m σ' H' ⟨_, e1, e2⟩ => by
    subst e1
    subst e2
    refine wt_mono (h _ z) fun b H1 ⟨L1, z1, e, q⟩ => ?_
    subst e
    exact iteF ⟨L1, z1, q⟩⟩
end
/-! ### lengths of texts -/
theorem num_len {i : Int} (h : -10000000000000000000000000000000000000000000000000000000000000000000000 ≤ i ∧ i ≤ 10000000000000000000000000000000000000000000000000000000000000000000000) : (Str.ofString (toString i)).length ≤ 1921 := by
  have e := int_text_length_le (k := 1920) (by decide) (log_of h)
  rw [PySem.ofString_length]; omega
theorem join_one (y : Str) : Txt.join "" [y] = y := by
  first
  | rfl
  | (apply TL.ext_tl; simp [Txt.join])
/-! ### == with any other object -/
section
variable {prog : Program} {w : World} {A : Around} {E : Value → Shared → Prop} {s : Shared} {K : PySem.W.Frag} {C x : Addr} {ox : Obj} {od : Option Obj} {b tb : Value}
theorem cmp_out {op : CmpOp} {Q : Value → Shared → Prop} (ho : op = .Eq ∨ op = .NotEq) (hu : A.units < cLine) (X : K.In s.heap) (I : InstAt s.heap x ox C od) (hb : Looks (model prog w) s.heap (typeOf b) tb) (hn : subIn K tb (.ref C) = some false)
    (h1 : wpAny (model prog w) A (tryCompare (.ref x) (cmpInfo op).2.1 b) (fun r s' => ∃ v, r = some v ∧ Q v s') E s) : wpAny (model prog w) A (richCompare op (.ref x) b) Q E s := by
  unfold richCompare
  simp only [oneThing_ref]
  refine wpAny_holding (wpAny_bind (wpAny_cRoomFor hu ?_))
  refine wpAny_bind (I.type.here (wpAny_bind (hb.here ?_)))
  split
  · refine wpAny_bind ((looks_subIn X hn).here ?_)
    simp only [Bool.false_eq_true, if_false]
    refine wpAny_bind (wpAny_mono h1 (fun r s' z => ?_) fun _ _ e => e)
    obtain ⟨v, rfl, hq⟩ := z
    exact wpAny_pure hq
  · refine wpAny_bind (wpAny_pure ?_)
    simp only [Bool.false_eq_true, if_false]
    refine wpAny_bind (wpAny_mono h1 (fun r s' z => ?_) fun _ _ e => e)
    obtain ⟨v, rfl, hq⟩ := z
    exact wpAny_pure hq
end
section
variable {X : Cx} {P : Program} {w : World} {K : PySem.W.Frag} {mg : Str → Option Value} {base : Heap} {k j : Nat} {N Nv : List Str} {sc : Scope} {sp : Sp} {a C dx : Addr} {fs : List (Str × V)} {Cs : Addr → Prop} {y : V} {t : Value}
variable {H0 : Hp} {M : Addr → Prop} {L : LL} {Q : V → LL → Prop}
theorem Body.eqO (bd : Body X P w K mg base k N Nv sc) (O : EqT P w K mg base CX0 j Cs sp) (hj : Nat.ble j k = true) (ix : At L a (.ins C dx fs)) (cC : Cs C) (hy : ∀ H, Hs H0 M L H → TyX K H y t) (hn : subIn K t (.ref C) = some false)
    (h1 : rs H0 M sp EE [.ref a, y] L Q) : ro X H0 M (compareOp .Eq) (.ref a) y L Q := fun H z pins s σ v u I rx ry => by
  obtain ⟨f, fd, ps, F, fam, sub, hb⟩ := O.ex
  rw [← bd.prog, ← bd.w, ← bd.K, ← bd.mg, ← bd.base] at F
  rw [← bd.K] at fam sub hb hn hy
  obtain rfl : v = Value.ref a := rx
  obtain ⟨ox, od, J, _⟩ := StX.insC_at I (.inr ⟨dx, fs, z.get ix⟩)
  have hr := bd.rm (Nat.le_of_ble_eq_true hj)
  obtain ⟨PP, kx, hP, _⟩ := kit_of I ry (hy H z)
  show wpAny (model X.prog X.w) X.A (richCompare .Eq (.ref a) u) _ _ _
  refine cmp_out (.inl rfl) (by have := hr.un; omega) I.kIn J (kx.ty _ _ I.kIn hP) hn (tc_eq I.kIn J (fam C cC) ?_)
  refine wpAny_mono (fk_run (us := [.ref a, u]) (vs := [.ref a, y]) F hr bd.gd hb .nil px0 I (.cons rfl (.cons ry .nil)) (h1 H z)) (fun r s2 ⟨v, H2, I3, rv, q⟩ => ?_) fun _ _ e => e
  exact cmp_back (Q := fun _ _ => True) rv ⟨v, H2, I3, rv, q⟩
theorem Body.neO (bd : Body X P w K mg base k N Nv sc) (O : EqT P w K mg base CX0 j Cs sp) (hj : Nat.ble (j + 1) k = true) (ix : At L a (.ins C dx fs)) (cC : Cs C) (hy : ∀ H, Hs H0 M L H → TyX K H y t) (hn : subIn K t (.ref C) = some false)
    (h1 : rs H0 M sp EE [.ref a, y] L fun v L1 => ∃ k, v = .bl k ∧ Q (.bl (!k)) L1) : ro X H0 M (compareOp .NotEq) (.ref a) y L Q := fun H z pins s σ v u I rx ry => by
  obtain ⟨f, fd, ps, F, fam, sub, hb⟩ := O.ex
  rw [← bd.prog, ← bd.w, ← bd.K, ← bd.mg, ← bd.base] at F
  rw [← bd.K] at fam sub hb hn hy
  obtain rfl : v = Value.ref a := rx
  obtain ⟨ox, od, J, _⟩ := StX.insC_at I (.inr ⟨dx, fs, z.get ix⟩)
  have hr : Room (j + 1) X.A := bd.rm (Nat.le_of_ble_eq_true hj)
  obtain ⟨PP, kx, hP, _⟩ := kit_of I ry (hy H z)
  have one : wpAny (model X.prog X.w) X.A.in1 (PySem.call (.ref f) [.ref a, u]) (fun v s' => ∃ k, v = .bool k ∧ EP X pins σ (up H0 M Q) (.bool (!k)) s') X.xe s := by
    have q2 := h1 H z
    have ll : ([Value.ref a, u] ++ []).length = ps.length := F.len _ _ _ _ q2
    have bb := hb s [.ref a, u] I.kIn ll
    rw [List.append_nil] at bb
    refine wpAny_call (codeAny_mono (F.go X.A.in1 X.stack s H ⟨[.ref a, u], []⟩ [.ref a, u] [.ref a, y] _ EE hr.in1 bd.gd I.env0.in1 bb (.cons rfl (.cons ry .nil)) q2) fun res s2 hq => ?_)
    rcases res with er | fl
    · exact (px0 (E := EE) pins σ H s er s2 I hq)
    · cases fl with
      | ret u =>
        obtain ⟨v, H', I3, rv, L3, z3, kk, ev, q3⟩ := I.after hq
        subst ev
        cases rv
        exact ⟨kk, rfl, .bl (!kk), H', I3, rfl, L3, z3, q3⟩
      | next => exact hq.elim
      | brk => exact hq.elim
      | cont => exact hq.elim
  show wpAny (model X.prog X.w) X.A (richCompare .NotEq (.ref a) u) _ _ _
  have hu : X.A.units + 1 < cLine := by have := hr.un; omega
  exact cmp_out (.inr rfl) (by omega) I.kIn J (kx.ty _ _ I.kIn hP) hn (tc_ne hu I.kIn J (fam C cC) one)
/-- isinstance(x, D) of any object x whose type is known -/
theorem rc_isiA {D : Addr} {b : Bool} (hy : ∀ H, Hs H0 M L H → TyX X.K H y t) (h3 : kitOne X.K t (.ref D) = some b) (h : Q (.bl b) L) : rc X H0 M (.builtin "isinstance") [y, .ref D] L Q :=
  rc_isi (.own D) hy h3 h
end
/-- built-in types are not below a class of the program -/
theorem sub_ty {K : PySem.W.Frag} {T : String} {l : List Value} {C : Addr} (e : PySem.fastBuiltinMro T = some l) (h : l.contains (Value.ref C) = false) : subIn K (.type T) (.ref C) = some false := by
  show (PySem.fastBuiltinMro T).map (·.contains (Value.ref C)) = some false
  rw [e, Option.map_some, h]
/-- {k: v}, k a text -/
theorem ke_dict1 {X : Cx} {H0 : Hp} {M : Addr → Prop} {L : LL} {σ : L2.St} {Q : V → LL → Prop} {k v : Expr} {pos : Pos} {x : Str} {y : V}
    (hk : ∀ L1, ke X H0 M k σ L1 fun u L2 => u = .str x ∧ L2 = L1) (hv : ∀ L1, Sub L L1 → ke X H0 M v σ L1 fun u L2 => u = y ∧ L2 = L1) (h : New H0 (.dK [(.inr x, y)]) L Q) : ke X H0 M (.Dict [some k] [v] pos) σ L Q := fun H z =>
  we_of (pe_disp (pps_cons pe_we pe_we pps_nil) rfl rfl (by simp) (show 1 ≤ 15 by decide)) fun p n => by
    have z1 : Hs H0 M ((p, .dK []) :: L) (upd H p (.dK [])) := z.new n
    refine we_mono (hk _ _ z1) fun u H1 ⟨L1, z2, e1, e2⟩ => ?_
    subst e1 e2
    refine we_mono (hv _ (.cons _ (.refl _)) H1 z2) fun u H2 ⟨L2, z3, e3, e4⟩ => ?_
    subst e3 e4
    refine ⟨z3.get .here, [(.inr x, u)], rfl, (show 1 ≤ 15 by decide), ?_⟩
    exact ⟨_, z3.put .here (.inl (z.fresh n)), h p (z.fresh n)⟩
/-- [x for x in xs if test], the test fails for all -/
theorem Body.lcNone {X : Cx} {elt tg iter : Expr} {ifs : List Expr} {scope : Scope} {pos : Pos} {H0 : Hp} {M : Addr → Prop} {L : LL} {σ : L2.St} {Q : V → LL → Prop} {P : Program} {w : World} {K : PySem.W.Frag} {mg : Str → Option Value} {base : Heap} {k : Nat} {N Nv Nw : List Str} {sc : Scope} (bd : Body X P w K mg base k N Nv sc) (ns : Ns X N Nw) (own : List (Str × Nat)) (Nb No : List Str) (ok : BlkOk N sc scope own) (vis : ∀ x ∈ Nb, (relS scope sc).names.lookup x = some .local ∨ (relS scope sc).names.lookup x = some .cell ∨ (relS scope sc).names.lookup x = some .free) (pl : ∀ x ∈ Nb, (x == ("__debug__" : Str)) = false ∧ (x == ("__classdict__" : Str)) = false) (lc : ∀ x ∈ No, (relS scope sc).names.lookup x = some .local) (hs : ∀ x, foldedSetIterable iter X.env x = pure x)
    (h : ke X H0 M iter σ L fun v L1 => ∃ (a : Addr) (xs : List V), v = .ref a ∧ At L1 a (.lst xs) ∧
      (∀ x ∈ xs, ∀ D, H0 D = none → ∀ B, Body B P w K mg base k N Nb (relS scope sc) → Ns B N No → kg B H0 M tg x (wipe σ (own.map (·.2))) ((D, .lst []) :: L1) fun σ2 L2 => L2 = (D, .lst []) :: L1 ∧ wipe σ2 (own.map (·.2)) = wipe σ (own.map (·.2)) ∧
        ∀ B, Body B P w K mg base k N Nb (relS scope sc) → kf B H0 M ifs σ2 L2 fun b L3 => L3 = (D, .lst []) :: L1 ∧ b = false) ∧
      ∀ D, H0 D = none → Q (.ref D) ((D, .lst []) :: L1)) :
    ke X H0 M (.ListComp elt [⟨tg, iter, ifs, 0⟩] scope pos) σ L Q := by
  refine Body.lc bd ns own Nb No ok vis pl lc hs (ki_list fun H z => we_mono (h H z) fun v H1 ⟨L1, z1, a, xs, ev, ia, st, en⟩ => ⟨L1, z1, a, _, ev, ia, fun J wk D nD => ?_⟩)
  refine ⟨_, _, _, fun i L => L = (D, .lst []) :: L1, wk, rfl, fun i L hi e => by rw [e]; exact .there ia, fun i x L L' hi e hx B bB nB => ?_, fun L e => by rw [e]; exact en D nD⟩
  obtain ⟨e2, hx⟩ := hx
  subst e2
  subst e
  have key := st x (List.mem_of_getElem? hx) D nD B bB nB
  refine fun H z pins s u I r => thn (key H z pins s u I r) fun _ s' ⟨σ', H', I', L2, z2, e3, e4, q⟩ => ⟨σ', H', I', L2, z2, e4, fun B2 bB2 => kf_mono (q B2 bB2) fun b L3 ⟨e5, e6⟩ => ?_⟩
  subst e5
  subst e6
  rw [if_neg (by decide)]
  exact ⟨_, .refl _, rfl⟩
end Xi

/-! ## Idn -/
/-! == and != of instances without an __eq__ of their own: by identity. -/
namespace Xi
open PySem PySem.Spec PyProof.Rows L2 PySem.W
structure IdC (K : PySem.W.Frag) (C : Addr) : Prop where
  eq : findIn K (.ref C) "__eq__" = some (some (.builtin "object.__eq__"))
  ne : findIn K (.ref C) "__ne__" = some (some (.builtin "object.__ne__"))
  ob : mroIn K C (.type "object") = some true
  nl : mroIn K C (.type "list") = some false
section
variable {prog : Program} {w : World} {A : Around} {E : Value → Shared → Prop} {s : Shared} {K : PySem.W.Frag} {C x y : Addr} {ox oy : Obj} {od : Option Obj}
theorem isSame_self {Q : Bool → Shared → Prop} (h : Q true s) : wpAny (model prog w) A (isSame (.ref x) (.ref x)) Q E s := by
  unfold isSame
  simp only [beq_self_eq_true, if_true]
  first | exact wpAny_pure h | exact wpAny_bind (wpAny_pure h) | exact h
theorem isSame_inst {Q : Bool → Shared → Prop} (I : InstAt s.heap x ox C od) (J : s.heap.get? y = some oy) (ne : x ≠ y) (h : Q false s) : wpAny (model prog w) A (isSame (.ref x) (.ref y)) Q E s := by
  unfold isSame
  have e : (x == y) = false := beq_false_of_ne ne
  simp only [e, Bool.false_eq_true, if_false]
  refine wpAny_bind (wpAny_load I.at_ (wpAny_bind (wpAny_load J ?_)))
  have c := I.cls
  split
  · rename_i h1 _ _ _
    rw [c] at h1
    cases h1
  · exact wpAny_pure h
theorem call_objEqS {Q : Value → Shared → Prop} (X : K.In s.heap) (I : InstAt s.heap x ox C od) (hm : mroIn K C (.type "object") = some true) (hq : Q (.bool true) s) :
    wpAny (model prog w) A (call (.builtin "object.__eq__") [.ref x, .ref x]) Q E s :=
  wpAny_call (codeAny_call_builtin F.cmp_object.eq.plain F.cmpEntry_eq (check_slot F.cmpKind_eq F.cmpSplit_eq (I.type.andThen (looks_mroIn X hm)) (F.cmpArgs_eq _ _) (by
    unfold Builtin.«object.__eq__»
    repeat (first | with_reducible refine isSame_self ?_ | wp_step)
    exact hq)))
theorem call_objEqD {Q : Value → Shared → Prop} (X : K.In s.heap) (I : InstAt s.heap x ox C od) (hm : mroIn K C (.type "object") = some true) (J : s.heap.get? y = some oy) (ne : x ≠ y) (hq : Q .notImplemented s) :
    wpAny (model prog w) A (call (.builtin "object.__eq__") [.ref x, .ref y]) Q E s :=
  wpAny_call (codeAny_call_builtin F.cmp_object.eq.plain F.cmpEntry_eq (check_slot F.cmpKind_eq F.cmpSplit_eq (I.type.andThen (looks_mroIn X hm)) (F.cmpArgs_eq _ _) (by
    unfold Builtin.«object.__eq__»
    repeat (first | with_reducible refine isSame_inst I J ne ?_ | wp_step)
    exact hq)))
theorem eq_self {Q : Value → Shared → Prop} (hu : A.units < cLine) (X : K.In s.heap) (I : InstAt s.heap x ox C od) (D : IdC K C) (h : Q (.bool true) s) : wpAny (model prog w) A (richCompare .Eq (.ref x) (.ref x)) Q E s := by
  have one : wpAny (model prog w) A (tryCompare (.ref x) "__eq__" (.ref x)) (fun r s' => r = some (.bool true) ∧ s' = s) E s := by
    unfold tryCompare
    exact wpAny_bind (HN.ifBound_objEq X I D.eq (call_objEqS X I D.ob (wpAny_pure ⟨rfl, rfl⟩)))
  unfold richCompare
  simp only [oneThing_ref, cmpInfo_Eq]
  refine wpAny_holding (wpAny_bind (wpAny_cRoomFor hu ?_))
  refine wpAny_bind (I.type.here (wpAny_bind (I.type.here ?_)))
  split
  · rename_i q
    exact absurd q (by simp)
  · refine wpAny_bind (wpAny_pure ?_)
    simp only [Bool.false_eq_true, if_false]
    refine wpAny_bind (wpAny_mono one (fun r s' z => ?_) fun _ _ e => e)
    obtain ⟨rfl, rfl⟩ := z
    exact wpAny_pure h
theorem eq_diff {Q : Value → Shared → Prop} (hu : A.units < cLine) (X : K.In s.heap) (I : InstAt s.heap x ox C od) {oe : Option Obj} (J : InstAt s.heap y oy C oe) (ne : x ≠ y) (D : IdC K C) (h : Q (.bool false) s) : wpAny (model prog w) A (richCompare .Eq (.ref x) (.ref y)) Q E s := by
  have one : wpAny (model prog w) A (tryCompare (.ref x) "__eq__" (.ref y)) (fun r s' => r = none ∧ s' = s) E s := by
    unfold tryCompare
    exact wpAny_bind (HN.ifBound_objEq X I D.eq (call_objEqD X I D.ob J.at_ ne (wpAny_pure ⟨rfl, rfl⟩)))
  have two : wpAny (model prog w) A (tryCompare (.ref y) "__eq__" (.ref x)) (fun r s' => r = none ∧ s' = s) E s := by
    unfold tryCompare
    exact wpAny_bind (HN.ifBound_objEq X J D.eq (call_objEqD X J D.ob I.at_ (Ne.symm ne) (wpAny_pure ⟨rfl, rfl⟩)))
  unfold richCompare
  simp only [oneThing_ref, cmpInfo_Eq]
  refine wpAny_holding (wpAny_bind (wpAny_cRoomFor hu ?_))
  refine wpAny_bind (I.type.here (wpAny_bind (J.type.here ?_)))
  split
  · rename_i q
    exact absurd q (by simp)
  · refine wpAny_bind (wpAny_pure ?_)
    simp only [Bool.false_eq_true, if_false, Bool.not_false, if_true]
    refine wpAny_bind (m := tryCompare (.ref x) _ (.ref y)) (wpAny_mono one (fun r s1 z => ?_) fun _ _ e => e)
    obtain ⟨z1, z2⟩ := z
    subst z1
    subst z2
    refine wpAny_bind (m := tryCompare (.ref y) _ (.ref x)) (wpAny_mono two (fun r s2 z => ?_) fun _ _ e => e)
    obtain ⟨z1, z2⟩ := z
    subst z1
    subst z2
    exact wpAny_bind (wpAny_rule (wpAny_bind (isSame_inst I J.at_ ne (wpAny_pure h))))
theorem list_eq_inst {Q : Fin → Shared → Prop} {l : Addr} {items : Array Value} {n : Nat} {dd : Option Addr} {sl : Array (Option Value)} (hl : s.heap.get? l = some { cls := .type "list", dict := dd, data := .seq items n, slots := sl }) (X : K.In s.heap) (I : InstAt s.heap x ox C od) (D : IdC K C) (h : Q (.done (.ret .notImplemented)) s) :
    wpAny (model prog w) A (Builtin.«list.__eq__» ⟨[.ref l, .ref x], []⟩) Q E s := by
  have ii : Looks (model prog w) s.heap (isInstance (.ref x) (.type "list")) false := I.type.andThen (looks_mroIn X D.nl)
  unfold Builtin.«list.__eq__»
  repeat (first | with_reducible refine ii.here ?_ | with_reducible refine wpAny_bind (ii.here ?_) | wp_step)
  exact h
theorem call_list_eq_inst {Q : Value → Shared → Prop} {l : Addr} {items : Array Value} (hl : s.heap.IsList l items) (X : K.In s.heap) (I : InstAt s.heap x ox C od) (D : IdC K C) (h : Q .notImplemented s) :
    wpAny (model prog w) A (call (.builtin "list.__eq__") [.ref l, .ref x]) Q E s := by
  obtain ⟨o, ho, hc, n, hd⟩ := hl
  obtain ⟨cls, dd, dat, sl⟩ := o
  simp only at hc hd
  subst hc hd
  exact wpAny_call (codeAny_call_builtin F.slot_list_eq_refl.plain F.entry_list_eq (F.slot_list_eq_refl.check _ _ _ _ _ _ _ _ ⟨_, ho, rfl⟩ (F.args_list_eq_2 _ _) (list_eq_inst ho X I D h)))
theorem sub_list {C : Addr} : subIn K (.type "list") (.ref C) = some false := sub_ty (T := "list") (l := [.type "list", .type "object"]) (by decide +kernel) rfl
theorem eq_lst {Q : Value → Shared → Prop} {l : Addr} {items : Array Value} (hu : A.units < cLine) (X : K.In s.heap) (I : InstAt s.heap x ox C od) (hl : s.heap.IsList l items) (ne : x ≠ l) (D : IdC K C) (h : Q (.bool false) s) : wpAny (model prog w) A (richCompare .Eq (.ref x) (.ref l)) Q E s := by
  obtain ⟨ol, ho, hc, hd⟩ := id hl
  have ht : s.TypeIs (.ref l) "list" := ⟨ol, ho, hc⟩
  have one : wpAny (model prog w) A (tryCompare (.ref x) "__eq__" (.ref l)) (fun r s' => r = none ∧ s' = s) E s := by
    unfold tryCompare
    exact wpAny_bind (HN.ifBound_objEq X I D.eq (call_objEqD X I D.ob ho ne (wpAny_pure ⟨rfl, rfl⟩)))
  have two : wpAny (model prog w) A (tryCompare (.ref l) "__eq__" (.ref x)) (fun r s' => r = none ∧ s' = s) E s :=
    wpAny_tryCompare_declines ht F.slot_list_eq_refl (call_list_eq_inst hl X I D ⟨rfl, rfl, rfl⟩)
  unfold richCompare
  simp only [oneThing_ref, cmpInfo_Eq]
  refine wpAny_holding (wpAny_bind (wpAny_cRoomFor hu ?_))
  refine wpAny_bind (I.type.here (wpAny_bind (wpAny_typeOf ht ?_)))
  split
  · refine wpAny_bind ((looks_subIn X sub_list).here ?_)
    simp only [Bool.false_eq_true, if_false, Bool.not_false, if_true]
    refine wpAny_bind (m := tryCompare (.ref x) _ (.ref l)) (wpAny_mono one (fun r s1 z => ?_) fun _ _ e => e)
    obtain ⟨z1, z2⟩ := z
    subst z1
    subst z2
    refine wpAny_bind (m := tryCompare (.ref l) _ (.ref x)) (wpAny_mono two (fun r s2 z => ?_) fun _ _ e => e)
    obtain ⟨z1, z2⟩ := z
    subst z1
    subst z2
    exact wpAny_bind (wpAny_rule (wpAny_bind (isSame_inst I ho ne (wpAny_pure h))))
  · rename_i q
    exact absurd (by simp) q
theorem ne_self {Q : Value → Shared → Prop} (hu : A.units + 1 < cLine) (X : K.In s.heap) (I : InstAt s.heap x ox C od) (D : IdC K C) (h : Q (.bool false) s) : wpAny (model prog w) A (richCompare .NotEq (.ref x) (.ref x)) Q E s := by
  have one : wpAny (model prog w) A (tryCompare (.ref x) "__ne__" (.ref x)) (fun r s' => r = some (.bool false) ∧ s' = s) E s := by
    unfold tryCompare
    refine wpAny_bind (ifBound_objNe X I D.ne (wpAny_call (codeAny_call_builtin F.cmp_object.ne.plain F.cmpEntry_ne (check_slot F.cmpKind_ne F.cmpSplit_ne (I.type.andThen (looks_mroIn X D.ob)) (F.cmpArgs_ne _ _) ?_))))
    show wpAny (model prog w) A.in1 (Builtin.«object.__ne__» ⟨[.ref x, .ref x], []⟩) _ _ s
    unfold Builtin.«object.__ne__»
    repeat (first
      | with_reducible refine wpAny_cRoomFor hu ?_
      | (refine wpAny_bind (m := callSpecialIfBound? (.ref x) (Str.ofString "__eq__") [.ref x]) (HN.ifBound_objEq X I D.eq (call_objEqS X I D.ob (by
          repeat (first | exact wpAny_pure ⟨rfl, rfl⟩ | (refine wpAny_bind (m := truthy (.bool _)) (wpAny_truthy_bool ?_)) | wp_step)))))
      | wp_step)
  unfold richCompare
  simp only [oneThing_ref, cmpInfo]
  refine wpAny_holding (wpAny_bind (wpAny_cRoomFor (by omega) ?_))
  refine wpAny_bind (I.type.here (wpAny_bind (I.type.here ?_)))
  split
  · rename_i q
    exact absurd q (by simp)
  · refine wpAny_bind (wpAny_pure ?_)
    simp only [Bool.false_eq_true, if_false]
    refine wpAny_bind (wpAny_mono one (fun r s' z => ?_) fun _ _ e => e)
    obtain ⟨rfl, rfl⟩ := z
    exact wpAny_pure h
end
section
variable {X : Cx} {P : Program} {w : World} {K : PySem.W.Frag} {mg : Str → Option Value} {base : Heap} {k : Nat} {N Nv : List Str} {sc : Scope} {a b C dx dy : Addr} {fs gs : List (Str × V)} {xs : List V}
variable {H0 : Hp} {M : Addr → Prop} {L : LL} {Q : V → LL → Prop}
theorem ro_eqId (bd : Body X P w K mg base k N Nv sc) (D : IdC K C) (ia : At L a (.ins C dx fs)) (h : Q (.bl true) L) : ro X H0 M (compareOp .Eq) (.ref a) (.ref a) L Q := fun H z pins s σ v u I rx ry => by
  rw [← bd.K] at D
  obtain rfl : v = Value.ref a := rx
  obtain rfl : u = Value.ref a := ry
  obtain ⟨ox, od, J, _⟩ := StX.insC_at I (.inr ⟨dx, fs, z.get ia⟩)
  show wpAny (model X.prog X.w) X.A (richCompare .Eq (.ref a) (.ref a)) _ _ _
  exact eq_self (by have := (bd.rm (Nat.zero_le k)).un; omega) I.kIn J D ⟨.bl true, H, I, rfl, L, z, h⟩
theorem ro_neId (bd : Body X P w K mg base k N Nv sc) (D : IdC K C) (hk : Nat.ble 1 k = true) (ia : At L a (.ins C dx fs)) (h : Q (.bl false) L) : ro X H0 M (compareOp .NotEq) (.ref a) (.ref a) L Q := fun H z pins s σ v u I rx ry => by
  rw [← bd.K] at D
  obtain rfl : v = Value.ref a := rx
  obtain rfl : u = Value.ref a := ry
  obtain ⟨ox, od, J, _⟩ := StX.insC_at I (.inr ⟨dx, fs, z.get ia⟩)
  show wpAny (model X.prog X.w) X.A (richCompare .NotEq (.ref a) (.ref a)) _ _ _
  exact ne_self (by have := (bd.rm (Nat.le_of_ble_eq_true hk)).un; omega) I.kIn J D ⟨.bl false, H, I, rfl, L, z, h⟩
theorem ro_eqIdN (bd : Body X P w K mg base k N Nv sc) (D : IdC K C) (ia : At L a (.ins C dx fs)) (ib : At L b (.ins C dy gs)) (ne : ∀ H, Hs H0 M L H → a ≠ b) (h : Q (.bl false) L) : ro X H0 M (compareOp .Eq) (.ref a) (.ref b) L Q := fun H z pins s σ v u I rx ry => by
  rw [← bd.K] at D
  obtain rfl : v = Value.ref a := rx
  obtain rfl : u = Value.ref b := ry
  obtain ⟨ox, od, J, _⟩ := StX.insC_at I (.inr ⟨dx, fs, z.get ia⟩)
  obtain ⟨oy, oe, J2, _⟩ := StX.insC_at I (.inr ⟨dy, gs, z.get ib⟩)
  show wpAny (model X.prog X.w) X.A (richCompare .Eq (.ref a) (.ref b)) _ _ _
  exact eq_diff (by have := (bd.rm (Nat.zero_le k)).un; omega) I.kIn J J2 (ne H z) D ⟨.bl false, H, I, rfl, L, z, h⟩
theorem ro_eqIdL (bd : Body X P w K mg base k N Nv sc) (D : IdC K C) (ia : At L a (.ins C dx fs)) (ib : At L b (.lst xs)) (h : Q (.bl false) L) : ro X H0 M (compareOp .Eq) (.ref a) (.ref b) L Q := fun H z pins s σ v u I rx ry => by
  rw [← bd.K] at D
  obtain rfl : v = Value.ref a := rx
  obtain rfl : u = Value.ref b := ry
  obtain ⟨ox, od, J, _⟩ := StX.insC_at I (.inr ⟨dx, fs, z.get ia⟩)
  have ne : a ≠ b := At.apart z ia ib (fun e => nomatch e)
  obtain ⟨its, rl, pl, hz⟩ := I.list (z.sq ib)
  show wpAny (model X.prog X.w) X.A (richCompare .Eq (.ref a) (.ref b)) _ _ _
  exact eq_lst (by have := (bd.rm (Nat.zero_le k)).un; omega) I.kIn J pl.isList ne D ⟨.bl false, H, I, rfl, L, z, h⟩
end
/-! ### a method called by two keywords in the other order -/
structure MethR2 (P : Program) (w : World) (K : PySem.W.Frag) (mg : Str → Option Value) (base : Heap) (k : Nat) (Cs : Addr → Prop) (m : Str) (k1 k2 : Str) (sp : Sp) : Prop where
  ex : ∃ f fd ps, Fk P w K mg base CX0 k f fd ps sp ∧ (∀ C, Cs C → Cls K C ∧ Meth K C m f) ∧ ∀ (s : Shared) (u : Value) (ws : List Value), ws.length = 2 → BindsTo s fd ⟨[u], [k1, k2].zip ws⟩ (ps.zip (u :: gR2 ws))
theorem FunC.okR2 {P : Program} {w : World} {K : PySem.W.Frag} {mg : Str → Option Value} {base : Heap} {k : Nat} {m qual : Str} {st : Stmt} {sp : Sp} {ps : List Str} {k1 k2 : Str} {Cs : Addr → Prop} (F : FunC K Cs m qual st) (hc : ∀ C, Cs C → Cls K C)
    (b : ∀ f fd, Fun K m qual st f fd → ∀ (s : Shared) (u : Value) (ws : List Value), ws.length = 2 → BindsTo s fd ⟨[u], [k1, k2].zip ws⟩ (ps.zip (u :: gR2 ws))) (h : ∀ f fd, Fun K m qual st f fd → Fk P w K mg base CX0 k f fd ps sp) : MethR2 P w K mg base k Cs m k1 k2 sp := by
  obtain ⟨f, fd, F, hm⟩ := F.ex
  exact ⟨f, fd, ps, h f fd F, fun C c => ⟨hc C c, hm C c⟩, b f fd F⟩
section
variable {X : Cx} {k j : Nat} {sp : Sp} {m : Str} {o : Expr} {apos pos : Pos} {kws : List Keyword} {k1 k2 : Str} {Cs : Addr → Prop} {H0 : Hp} {M : Addr → Prop} {L : LL} {σ : L2.St} {Q : V → LL → Prop}
variable {P : Program} {w : World} {K : PySem.W.Frag} {mg : Str → Option Value} {base : Heap} {N Nv : List Str} {sc : Scope}
theorem Body.methR2 (bd : Body X P w K mg base k N Nv sc) (D : MethR2 P w K mg base j Cs m k1 k2 sp) (hj : Nat.ble j k = true)
    (hall : (backToKw pos (keywordEach kws X.env)).all (·.1.isSome) = true) (hks : (backToKw pos (keywordEach kws X.env)).filterMap (·.1) = [k1, k2]) (hpl : ((backTo pos (starEach [] X.env)).any (·.1) || (backToKw pos (keywordEach kws X.env)).any (·.1.isNone)) = false)
    (ht : ∃ pl : Sem Bool, eval (.Call (.Attribute o m apos) [] kws pos) X.env = (do
      let ov ← eval o X.env
      standAt apos.atName
      let (f, first) ← holding [ov] (getMethod ov m pl)
      callWith pos f first (backTo pos (starEach [] X.env)) (backToKw pos (keywordEach kws X.env))))
    (h : ke X H0 M o σ L fun y L1 => ∃ a C dx fs, y = .ref a ∧ At L1 a (.ins C dx fs) ∧ Cs C ∧ fs.lookup m = none ∧ kk X H0 M kws σ L1 fun vs L2 => ∃ x y, vs = [x, y] ∧ rs H0 M sp EE [.ref a, y, x] L2 Q) :
    ke X H0 M (.Call (.Attribute o m apos) [] kws pos) σ L Q := fun H z pins s I => by
  obtain ⟨pl, ht⟩ := ht
  obtain ⟨f, fd, ps, F, hc, hb⟩ := D.ex
  rw [← bd.prog, ← bd.w, ← bd.K, ← bd.mg, ← bd.base] at F
  rw [← bd.K] at hc
  have hr := bd.rm (Nat.le_of_ble_eq_true hj)
  refine PySem.W.methodCall_KW (pl := pl) (thn (h H z pins s I) fun u s1 ⟨y, H1, I1, ry, L1, z1, a, C, dx, fs, ey, ia, cC, nl, q⟩ => ?_) ht
  subst ey
  obtain rfl : u = Value.ref a := ry
  obtain ⟨c1, c2⟩ := hc C cC
  refine getmeth_ok I1 (z1.get ia) c1 c2 nl ?_
  refine PySem.W.callWith_KW0 (first := [.ref a]) (h₀ := X.base) I.ok.mod.kin c2.kp hall (thn (q H1 z1 pos pins s1 I1) fun ws s2 ⟨zs, H2, I2, r, L2, z2, x, y, ez, q2⟩ => ⟨I2.kIn, ?_⟩) hpl
  rw [hks]
  subst ez
  have lw : ws.length = 2 := r.length.symm
  have r2 : Vals [y, x] (gR2 ws) := vk2 r
  refine wpAny_call (codeAny_mono (F.go X.A X.stack s2 H2 ⟨[.ref a], [k1, k2].zip ws⟩ (.ref a :: gR2 ws) [.ref a, y, x] _ EE hr bd.gd I2.env0 (hb s2 (.ref a) ws lw) (.cons rfl r2) (q2 H2 z2)) fun res s3 hq => ?_)
  rcases res with er | fl
  · exact px0 (E := EE) pins σ H2 s2 er s3 I2 hq
  · cases fl with
    | ret u => exact I2.after hq
    | next => exact hq.elim
    | brk => exact hq.elim
    | cont => exact hq.elim
end
end Xi

/-! ## Rp -/
/-! repr(None), repr of a truth value; sorted of two numbers. -/
namespace Xi
open PySem PySem.Spec PyProof.Rows L2
section
variable {X : Cx} {H0 : Hp} {M : Addr → Prop} {L : LL} {Q : V → LL → Prop}
theorem call_reprN : CallR X (.builtin "repr") (fun xs H Q => xs = [.non] ∧ Q (.str "None") H) := by
  intro pins s σ H xs us Q I r h
  obtain ⟨rfl, q⟩ := h
  cases r with | cons r1 t => cases t; cases r1; exact PySem.P.repr_of_none ⟨.str _, H, I.tok _, ⟨_, rfl⟩, q⟩
theorem call_reprB : CallR X (.builtin "repr") (fun xs H Q => ∃ b : Bool, xs = [.bl b] ∧ Q (.str (if b then "True" else "False")) H) := by
  intro pins s σ H xs us Q I r h
  obtain ⟨b, rfl, q⟩ := h
  cases r with | cons r1 t => cases t; cases r1; exact PySem.P.repr_of_bool ⟨.str _, H, I.tok _, ⟨_, by cases b <;> rfl⟩, q⟩
theorem rc_reprN (h : Q (.str "None") L) : rc X H0 M (.builtin "repr") [.non] L Q := rc_of call_reprN fun H z => ⟨rfl, L, z, h⟩
theorem rc_reprB {b : Bool} (h : Q (.str (if b then "True" else "False")) L) : rc X H0 M (.builtin "repr") [.bl b] L Q := rc_of call_reprB fun H z => ⟨b, rfl, L, z, h⟩
end
theorem sort_two {a b : Int} {os : List Int} (h : a ≤ b) (p : os.Perm [a, b] ∨ os.Perm [b, a]) (s : os.Pairwise (· ≤ ·)) : os = [a, b] := by
  have hl : os.length = 2 := by rcases p with p | p <;> exact p.length_eq
  have hm : ∀ j, j ∈ os ↔ j = a ∨ j = b := fun j => by
    rcases p with p | p
    · rw [p.mem_iff]; simp
    · rw [p.mem_iff]; simp; exact or_comm
  match os, hl, s, hm with
  | [u, v], _, s, hm =>
    have s1 := (List.pairwise_cons.mp s).1 v (by simp)
    have u1 := (hm u).mp (by simp)
    have v1 := (hm v).mp (by simp)
    have a1 := (hm a).mpr (.inl rfl)
    have b1 := (hm b).mpr (.inr rfl)
    simp only [List.mem_cons, List.not_mem_nil, or_false] at a1 b1
    have e1 : u = a := by omega
    have e2 : v = b := by omega
    rw [e1, e2]
theorem Body.asgT {X : Cx} {P : Program} {w : World} {K : PySem.W.Frag} {mg : Str → Option Value} {base : Heap} {k : Nat} {N Nv : List Str} {sc : Scope} {H0 : Hp} {M : Addr → Prop} {L : LL} {σ : L2.St} {tg e : Expr} {pos : Pos} {nx : L2.St → LL → Prop} {rt : V → LL → Prop} {bk ct : L2.St → LL → Prop} (bd : Body X P w K mg base k N Nv sc)
    (hs : ∀ env : Env, env.scope = sc → swapsWithSole [tg] e pos.line env = pure false) (hw : ∀ env : Env, env.scope = sc → swappedStores [tg] e env = pure none) (h1 : (assignEach [tg] X.env).map (·.2) = [assign tg X.env])
    (h : ke X H0 M e σ L fun v L1 => kg X H0 M tg v σ L1 nx) : ks X H0 M (.Assign [tg] e pos) nx rt bk ct σ L := ks_asg (hs _ bd.scope) (hw _ bd.scope) h1 h
/-- x, y, z = a, b, c, local names -/
theorem ks_par3 {X : Cx} {H0 : Hp} {M : Addr → Prop} {L : LL} {σ : L2.St} {N Nv : List Str} {x y z : Str} {a b c : Expr} {px py pz pt pos : Pos} {kt k2 pt2} {nx : L2.St → LL → Prop} {rt : V → LL → Prop} {bk ct : L2.St → LL → Prop} (n : Ns X N Nv) (hc : X.calm = true) (mx : x ∈ N) (my : y ∈ N) (mz : z ∈ N) (hxy : (x == y) = false) (hxz : (x == z) = false) (hyz : (y == z) = false)
    (hx : X.env.scope.names.lookup x = some .local) (hy : X.env.scope.names.lookup y = some .local) (hz : X.env.scope.names.lookup z = some .local)
    (hw : swappedStores [.Tuple [.Name x px, .Name y py, .Name z pz] kt pt] (.Tuple [a, b, c] k2 pt2) X.env = pure (some [x, y, z]))
    (hs : swapsWithSole [.Tuple [.Name x px, .Name y py, .Name z pz] kt pt] (.Tuple [a, b, c] k2 pt2) pos.line X.env = pure false)
    (h : ka X H0 M [a, b, c] σ L fun vs L1 => ∃ v w u, vs = [v, w, u] ∧ Pq N σ x v fun σ1 => Pq N σ1 y w fun σ2 => Pq N σ2 z u fun σ3 => nx σ3 L1) : ks X H0 M (.Assign [.Tuple [.Name x px, .Name y py, .Name z pz] kt pt] (.Tuple [a, b, c] k2 pt2) pos) nx rt bk ct σ L := by
  obtain ⟨i, hi⟩ := List.getElem?_of_mem mx
  obtain ⟨j, hj⟩ := List.getElem?_of_mem my
  obtain ⟨l, hl⟩ := List.getElem?_of_mem mz
  rw [← n.eq] at hi hj hl
  have ne : ∀ {i j : Nat} {x y : Str}, X.N[i]? = some x → X.N[j]? = some y → (x == y) = false → i ≠ j := fun hi hj hxy e => by
    subst e
    rw [hi] at hj
    cases hj
    rw [beq_self_eq_true] at hxy
    cases hxy
  refine ks_of (ps_par3 hc (by rw [n.eq]; exact n.nd) hi hj hl (ne hi hj hxy) (ne hi hl hxz) (ne hj hl hyz) hx hy hz pa_wa hw hs) fun H z => wa_mono (h H z) fun vs H1 ⟨L1, z1, v, w, u, ev, σ1, p1, σ2, p2, σ3, p3, k⟩ => ⟨v, w, u, ev, L1, z1, ?_⟩
  show nx (((σ.set i (some v)).set j (some w)).set l (some u)) L1
  rw [n.ix hi p1, n.ix hj p2, n.ix hl p3]
  exact k
theorem Body.par3 {X : Cx} {P : Program} {w : World} {K : PySem.W.Frag} {mg : Str → Option Value} {base : Heap} {k : Nat} {sc : Scope} {H0 : Hp} {M : Addr → Prop} {L : LL} {σ : L2.St} {N Nv : List Str} {x y z : Str} {a b c : Expr} {px py pz pt pos : Pos} {kt k2 pt2} {nx : L2.St → LL → Prop} {rt : V → LL → Prop} {bk ct : L2.St → LL → Prop} (bd : Body X P w K mg base k N Nv sc) (n : Ns X N Nv) (mx : x ∈ N) (my : y ∈ N) (mz : z ∈ N) (hxy : (x == y) = false) (hxz : (x == z) = false) (hyz : (y == z) = false)
    (hx : sc.names.lookup x = some .local) (hy : sc.names.lookup y = some .local) (hz : sc.names.lookup z = some .local)
    (hw : ∀ env : Env, env.scope = sc → swappedStores [.Tuple [.Name x px, .Name y py, .Name z pz] kt pt] (.Tuple [a, b, c] k2 pt2) env = pure (some [x, y, z]))
    (hs : swapsWithSole [.Tuple [.Name x px, .Name y py, .Name z pz] kt pt] (.Tuple [a, b, c] k2 pt2) pos.line X.env = pure false)
    (h : ka X H0 M [a, b, c] σ L fun vs L1 => ∃ v w u, vs = [v, w, u] ∧ Pq N σ x v fun σ1 => Pq N σ1 y w fun σ2 => Pq N σ2 z u fun σ3 => nx σ3 L1) : ks X H0 M (.Assign [.Tuple [.Name x px, .Name y py, .Name z pz] kt pt] (.Tuple [a, b, c] k2 pt2) pos) nx rt bk ct σ L :=
  ks_par3 n bd.calm mx my mz hxy hxz hyz (by rw [bd.scope]; exact hx) (by rw [bd.scope]; exact hy) (by rw [bd.scope]; exact hz) (hw _ bd.scope) hs h
end Xi

namespace Toy
open PySem L2 Xi

theorem sz1000 {n : Nat} (h : Nat.ble n 1000 = true) : n ≤ sizeLine := Nat.le_trans (Nat.le_of_ble_eq_true h) (by decide)
theorem szl1000 {n : Nat} (h : Nat.ble n 1000 = true) : n < sizeLine := Nat.lt_of_le_of_lt (Nat.le_of_ble_eq_true h) (by decide)
theorem bo_isinstance : bootBuiltins ("isinstance" : Str) = some (.builtin "isinstance") := by decide +kernel
theorem bo_len : bootBuiltins ("len" : Str) = some (.builtin "len") := by decide +kernel
theorem bo_max : bootBuiltins ("max" : Str) = some (.builtin "max") := by decide +kernel
theorem bo_min : bootBuiltins ("min" : Str) = some (.builtin "min") := by decide +kernel
theorem bo_abs : bootBuiltins ("abs" : Str) = some (.builtin "abs") := by decide +kernel
theorem bo_repr : bootBuiltins ("repr" : Str) = some (.builtin "repr") := by decide +kernel
theorem bo_sum : bootBuiltins ("sum" : Str) = some (.builtin "sum") := by decide +kernel
theorem bo_all : bootBuiltins ("all" : Str) = some (.builtin "all") := by decide +kernel
theorem bo_any : bootBuiltins ("any" : Str) = some (.builtin "any") := by decide +kernel
theorem bo_sorted : bootBuiltins ("sorted" : Str) = some (.builtin "sorted") := by decide +kernel
theorem bo_int : bootBuiltins ("int" : Str) = some (.type "int") := by decide +kernel
theorem bo_bool : bootBuiltins ("bool" : Str) = some (.type "bool") := by decide +kernel
theorem bo_str : bootBuiltins ("str" : Str) = some (.type "str") := by decide +kernel
theorem bo_list : bootBuiltins ("list" : Str) = some (.type "list") := by decide +kernel
theorem bo_VE : bootBuiltins ("ValueError" : Str) = some (.type "ValueError") := by decide +kernel
theorem bo_tuple : bootBuiltins ("tuple" : Str) = some (.type "tuple") := by decide +kernel
section
variable {X : Cx} {H0 : Hp} {M : Addr → Prop} {e : Expr} {es : List Expr} {σ : L2.St} {L : LL} {Q : V → LL → Prop} {pos p : Pos}
theorem cb_isinstance (hg : Gl X "isinstance") (hm : X.mg "isinstance" = none) (he : starEach (e :: es) X.env = (false, eval e X.env) :: starEach es X.env) (hpl : (backTo pos (starEach es X.env)).any (·.1) = false) (h : ka X H0 M (e :: es) σ L fun vs L1 => rc X H0 M (.builtin "isinstance") vs L1 Q) : ke X H0 M (.Call (.Name "isinstance" p) (e :: es) [] pos) σ L Q := ke_callB hg hm bo_isinstance he hpl h
theorem cb_len (hg : Gl X "len") (hm : X.mg "len" = none) (he : starEach (e :: es) X.env = (false, eval e X.env) :: starEach es X.env) (hpl : (backTo pos (starEach es X.env)).any (·.1) = false) (h : ka X H0 M (e :: es) σ L fun vs L1 => rc X H0 M (.builtin "len") vs L1 Q) : ke X H0 M (.Call (.Name "len" p) (e :: es) [] pos) σ L Q := ke_callB hg hm bo_len he hpl h
theorem cb_max (hg : Gl X "max") (hm : X.mg "max" = none) (he : starEach (e :: es) X.env = (false, eval e X.env) :: starEach es X.env) (hpl : (backTo pos (starEach es X.env)).any (·.1) = false) (h : ka X H0 M (e :: es) σ L fun vs L1 => rc X H0 M (.builtin "max") vs L1 Q) : ke X H0 M (.Call (.Name "max" p) (e :: es) [] pos) σ L Q := ke_callB hg hm bo_max he hpl h
theorem cb_min (hg : Gl X "min") (hm : X.mg "min" = none) (he : starEach (e :: es) X.env = (false, eval e X.env) :: starEach es X.env) (hpl : (backTo pos (starEach es X.env)).any (·.1) = false) (h : ka X H0 M (e :: es) σ L fun vs L1 => rc X H0 M (.builtin "min") vs L1 Q) : ke X H0 M (.Call (.Name "min" p) (e :: es) [] pos) σ L Q := ke_callB hg hm bo_min he hpl h
theorem cb_abs (hg : Gl X "abs") (hm : X.mg "abs" = none) (he : starEach (e :: es) X.env = (false, eval e X.env) :: starEach es X.env) (hpl : (backTo pos (starEach es X.env)).any (·.1) = false) (h : ka X H0 M (e :: es) σ L fun vs L1 => rc X H0 M (.builtin "abs") vs L1 Q) : ke X H0 M (.Call (.Name "abs" p) (e :: es) [] pos) σ L Q := ke_callB hg hm bo_abs he hpl h
theorem cb_repr (hg : Gl X "repr") (hm : X.mg "repr" = none) (he : starEach (e :: es) X.env = (false, eval e X.env) :: starEach es X.env) (hpl : (backTo pos (starEach es X.env)).any (·.1) = false) (h : ka X H0 M (e :: es) σ L fun vs L1 => rc X H0 M (.builtin "repr") vs L1 Q) : ke X H0 M (.Call (.Name "repr" p) (e :: es) [] pos) σ L Q := ke_callB hg hm bo_repr he hpl h
theorem cb_sum (hg : Gl X "sum") (hm : X.mg "sum" = none) (he : starEach (e :: es) X.env = (false, eval e X.env) :: starEach es X.env) (hpl : (backTo pos (starEach es X.env)).any (·.1) = false) (h : ka X H0 M (e :: es) σ L fun vs L1 => rc X H0 M (.builtin "sum") vs L1 Q) : ke X H0 M (.Call (.Name "sum" p) (e :: es) [] pos) σ L Q := ke_callB hg hm bo_sum he hpl h
theorem cb_all (hg : Gl X "all") (hm : X.mg "all" = none) (he : starEach (e :: es) X.env = (false, eval e X.env) :: starEach es X.env) (hpl : (backTo pos (starEach es X.env)).any (·.1) = false) (h : ka X H0 M (e :: es) σ L fun vs L1 => rc X H0 M (.builtin "all") vs L1 Q) : ke X H0 M (.Call (.Name "all" p) (e :: es) [] pos) σ L Q := ke_callB hg hm bo_all he hpl h
theorem cb_any (hg : Gl X "any") (hm : X.mg "any" = none) (he : starEach (e :: es) X.env = (false, eval e X.env) :: starEach es X.env) (hpl : (backTo pos (starEach es X.env)).any (·.1) = false) (h : ka X H0 M (e :: es) σ L fun vs L1 => rc X H0 M (.builtin "any") vs L1 Q) : ke X H0 M (.Call (.Name "any" p) (e :: es) [] pos) σ L Q := ke_callB hg hm bo_any he hpl h
theorem cb_sorted (hg : Gl X "sorted") (hm : X.mg "sorted" = none) (he : starEach (e :: es) X.env = (false, eval e X.env) :: starEach es X.env) (hpl : (backTo pos (starEach es X.env)).any (·.1) = false) (h : ka X H0 M (e :: es) σ L fun vs L1 => rc X H0 M (.builtin "sorted") vs L1 Q) : ke X H0 M (.Call (.Name "sorted" p) (e :: es) [] pos) σ L Q := ke_callB hg hm bo_sorted he hpl h
theorem cb_int (hg : Gl X "int") (hm : X.mg "int" = none) (he : starEach (e :: es) X.env = (false, eval e X.env) :: starEach es X.env) (hpl : (backTo pos (starEach es X.env)).any (·.1) = false) (h : ka X H0 M (e :: es) σ L fun vs L1 => rc X H0 M (.type "int") vs L1 Q) : ke X H0 M (.Call (.Name "int" p) (e :: es) [] pos) σ L Q := ke_callY hg hm bo_int he hpl h
theorem cb_bool (hg : Gl X "bool") (hm : X.mg "bool" = none) (he : starEach (e :: es) X.env = (false, eval e X.env) :: starEach es X.env) (hpl : (backTo pos (starEach es X.env)).any (·.1) = false) (h : ka X H0 M (e :: es) σ L fun vs L1 => rc X H0 M (.type "bool") vs L1 Q) : ke X H0 M (.Call (.Name "bool" p) (e :: es) [] pos) σ L Q := ke_callY hg hm bo_bool he hpl h
theorem cb_str (hg : Gl X "str") (hm : X.mg "str" = none) (he : starEach (e :: es) X.env = (false, eval e X.env) :: starEach es X.env) (hpl : (backTo pos (starEach es X.env)).any (·.1) = false) (h : ka X H0 M (e :: es) σ L fun vs L1 => rc X H0 M (.type "str") vs L1 Q) : ke X H0 M (.Call (.Name "str" p) (e :: es) [] pos) σ L Q := ke_callY hg hm bo_str he hpl h
theorem cb_list (hg : Gl X "list") (hm : X.mg "list" = none) (he : starEach (e :: es) X.env = (false, eval e X.env) :: starEach es X.env) (hpl : (backTo pos (starEach es X.env)).any (·.1) = false) (h : ka X H0 M (e :: es) σ L fun vs L1 => rc X H0 M (.type "list") vs L1 Q) : ke X H0 M (.Call (.Name "list" p) (e :: es) [] pos) σ L Q := ke_callY hg hm bo_list he hpl h
theorem cb_tuple (hg : Gl X "tuple") (hm : X.mg "tuple" = none) (he : starEach (e :: es) X.env = (false, eval e X.env) :: starEach es X.env) (hpl : (backTo pos (starEach es X.env)).any (·.1) = false) (h : ka X H0 M (e :: es) σ L fun vs L1 => rc X H0 M (.type "tuple") vs L1 Q) : ke X H0 M (.Call (.Name "tuple" p) (e :: es) [] pos) σ L Q := ke_callY hg hm bo_tuple he hpl h
theorem bo_set : bootBuiltins ("set" : Str) = some (.type "set") := by decide +kernel
theorem cb_set (hg : Gl X "set") (hm : X.mg "set" = none) (he : starEach (e :: es) X.env = (false, eval e X.env) :: starEach es X.env) (hpl : (backTo pos (starEach es X.env)).any (·.1) = false) (h : ka X H0 M (e :: es) σ L fun vs L1 => rc X H0 M (.type "set") vs L1 Q) : ke X H0 M (.Call (.Name "set" p) (e :: es) [] pos) σ L Q := ke_callY hg hm bo_set he hpl h
end
/-- the built-ins are as they were -/
abbrev Blt (mg : Str → Option Value) : Prop := ∀ x ∈ (["isinstance", "len", "max", "min", "abs", "repr", "sum", "all", "any", "sorted", "int", "bool", "str", "list", "tuple", "range", "enumerate", "zip", "super", "set", "divmod", "next", "type", "dict", "ValueError"] : List Str), mg x = none

def top (i : Nat) : Stmt := PySem.Challenge.pw_onwardlines_k38_errors_of_departures.main.body.getD i (.Pass ⟨0, 0, 0, 0⟩)
abbrev s_NotPossible_init : Stmt := inClass (top 11) 0
abbrev s_InvalidText_init : Stmt := inClass (top 12) 0
abbrev s_is_integer : Stmt := top 16
theorem sc_is_integer : FnScope ["thing"] ["thing"] (defScope s_is_integer) := ⟨rfl, rfl, rfl, by decide +kernel, rfl, by decide +kernel, by decide +kernel⟩
theorem lo_is_integer : ∀ x ∈ (["thing"] : List Str), (defScope s_is_integer).names.lookup x = some .local ∨ (defScope s_is_integer).names.lookup x = some .cell := by decide +kernel
theorem bi_is_integer {K : PySem.W.Frag} : ∀ (f : Addr) (fd : FuncData), Fun K "is_integer" "is_integer" s_is_integer f fd → Binds K fd ["thing"] [] := fun _ _ F => F.binds fun _ _ _ _ _ _ us hl => match us, hl with | [_], _ => rfl
theorem pl_is_integer : ∀ x ∈ (["thing"] : List Str), (x == ("__debug__" : Str)) = false ∧ (x == ("__classdict__" : Str)) = false := by decide +kernel
abbrev s_all_fit : Stmt := top 17
theorem sc_all_fit : FnScope ["headways", "ordered", "small", "great"] ["headways"] (defScope s_all_fit) := ⟨rfl, rfl, rfl, by decide +kernel, rfl, by decide +kernel, by decide +kernel⟩
theorem lo_all_fit : ∀ x ∈ (["headways", "ordered"] : List Str), (defScope s_all_fit).names.lookup x = some .local ∨ (defScope s_all_fit).names.lookup x = some .cell := by decide +kernel
theorem bi_all_fit {K : PySem.W.Frag} : ∀ (f : Addr) (fd : FuncData), Fun K "all_fit" "all_fit" s_all_fit f fd → Binds K fd ["headways"] [] := fun _ _ F => F.binds fun _ _ _ _ _ _ us hl => match us, hl with | [_], _ => rfl
theorem pl_all_fit : ∀ x ∈ (["headways", "ordered"] : List Str), (x == ("__debug__" : Str)) = false ∧ (x == ("__classdict__" : Str)) = false := by decide +kernel
abbrev s_written : Stmt := top 18
theorem sc_written : FnScope ["number", "blocks", "block"] ["number"] (defScope s_written) := ⟨rfl, rfl, rfl, by decide +kernel, rfl, by decide +kernel, by decide +kernel⟩
theorem lo_written : ∀ x ∈ (["number", "blocks", "block"] : List Str), (defScope s_written).names.lookup x = some .local ∨ (defScope s_written).names.lookup x = some .cell := by decide +kernel
theorem bi_written {K : PySem.W.Frag} : ∀ (f : Addr) (fd : FuncData), Fun K "written" "written" s_written f fd → Binds K fd ["number"] [] := fun _ _ F => F.binds fun _ _ _ _ _ _ us hl => match us, hl with | [_], _ => rfl
theorem pl_written : ∀ x ∈ (["number", "blocks", "block"] : List Str), (x == ("__debug__" : Str)) = false ∧ (x == ("__classdict__" : Str)) = false := by decide +kernel
abbrev s_is_below : Stmt := top 19
theorem sc_is_below : FnScope ["thing", "bound"] ["thing", "bound"] (defScope s_is_below) := ⟨rfl, rfl, rfl, by decide +kernel, rfl, by decide +kernel, by decide +kernel⟩
theorem lo_is_below : ∀ x ∈ (["thing", "bound"] : List Str), (defScope s_is_below).names.lookup x = some .local ∨ (defScope s_is_below).names.lookup x = some .cell := by decide +kernel
theorem bi_is_below {K : PySem.W.Frag} : ∀ (f : Addr) (fd : FuncData), Fun K "is_below" "is_below" s_is_below f fd → Binds K fd ["thing", "bound"] [] := fun _ _ F => F.binds fun _ _ _ _ _ _ us hl => match us, hl with | [_, _], _ => rfl
theorem pl_is_below : ∀ x ∈ (["thing", "bound"] : List Str), (x == ("__debug__" : Str)) = false ∧ (x == ("__classdict__" : Str)) = false := by decide +kernel
abbrev s_check_fitting : Stmt := top 22
theorem sc_check_fitting : FnScope ["every", "other"] ["every", "other"] (defScope s_check_fitting) := ⟨rfl, rfl, rfl, by decide +kernel, rfl, by decide +kernel, by decide +kernel⟩
theorem lo_check_fitting : ∀ x ∈ (["every", "other"] : List Str), (defScope s_check_fitting).names.lookup x = some .local ∨ (defScope s_check_fitting).names.lookup x = some .cell := by decide +kernel
theorem bi_check_fitting {K : PySem.W.Frag} : ∀ (f : Addr) (fd : FuncData), Fun K "check_fitting" "check_fitting" s_check_fitting f fd → Binds K fd ["every", "other"] [] := fun _ _ F => F.binds fun _ _ _ _ _ _ us hl => match us, hl with | [_, _], _ => rfl
theorem pl_check_fitting : ∀ x ∈ (["every", "other"] : List Str), (x == ("__debug__" : Str)) = false ∧ (x == ("__classdict__" : Str)) = false := by decide +kernel
abbrev s_Line_init : Stmt := inClass (top 23) 1
theorem sc_Line_init : FnScope ["self", "every", "at", "ride"] ["self", "every", "at", "ride"] (defScope s_Line_init) := ⟨rfl, rfl, rfl, by decide +kernel, rfl, by decide +kernel, by decide +kernel⟩
theorem lo_Line_init : ∀ x ∈ (["self", "every", "at", "ride"] : List Str), (defScope s_Line_init).names.lookup x = some .local ∨ (defScope s_Line_init).names.lookup x = some .cell := by decide +kernel
theorem bi_Line_init {K : PySem.W.Frag} : ∀ (f : Addr) (fd : FuncData), Fun K "__init__" "Line.__init__" s_Line_init f fd → Binds K fd ["self", "every", "at", "ride"] [] := fun _ _ F => F.binds fun _ _ _ _ _ _ us hl => match us, hl with | [_, _, _, _], _ => rfl
theorem pl_Line_init : ∀ x ∈ (["self", "every", "at", "ride"] : List Str), (x == ("__debug__" : Str)) = false ∧ (x == ("__classdict__" : Str)) = false := by decide +kernel
abbrev s_Line_every : Stmt := inClass (top 23) 2
theorem sc_Line_every : FnScope ["self"] ["self"] (defScope s_Line_every) := ⟨rfl, rfl, rfl, by decide +kernel, rfl, by decide +kernel, by decide +kernel⟩
theorem lo_Line_every : ∀ x ∈ (["self"] : List Str), (defScope s_Line_every).names.lookup x = some .local ∨ (defScope s_Line_every).names.lookup x = some .cell := by decide +kernel
theorem bi_Line_every {K : PySem.W.Frag} : ∀ (f : Addr) (fd : FuncData), Fun K "every" "Line.every" s_Line_every f fd → Binds K fd ["self"] [] := fun _ _ F => F.binds fun _ _ _ _ _ _ us hl => match us, hl with | [_], _ => rfl
theorem pl_Line_every : ∀ x ∈ (["self"] : List Str), (x == ("__debug__" : Str)) = false ∧ (x == ("__classdict__" : Str)) = false := by decide +kernel
abbrev s_Line_at : Stmt := inClass (top 23) 3
theorem sc_Line_at : FnScope ["self"] ["self"] (defScope s_Line_at) := ⟨rfl, rfl, rfl, by decide +kernel, rfl, by decide +kernel, by decide +kernel⟩
theorem lo_Line_at : ∀ x ∈ (["self"] : List Str), (defScope s_Line_at).names.lookup x = some .local ∨ (defScope s_Line_at).names.lookup x = some .cell := by decide +kernel
theorem bi_Line_at {K : PySem.W.Frag} : ∀ (f : Addr) (fd : FuncData), Fun K "at" "Line.at" s_Line_at f fd → Binds K fd ["self"] [] := fun _ _ F => F.binds fun _ _ _ _ _ _ us hl => match us, hl with | [_], _ => rfl
theorem pl_Line_at : ∀ x ∈ (["self"] : List Str), (x == ("__debug__" : Str)) = false ∧ (x == ("__classdict__" : Str)) = false := by decide +kernel
abbrev s_Line_ride : Stmt := inClass (top 23) 4
theorem sc_Line_ride : FnScope ["self"] ["self"] (defScope s_Line_ride) := ⟨rfl, rfl, rfl, by decide +kernel, rfl, by decide +kernel, by decide +kernel⟩
theorem lo_Line_ride : ∀ x ∈ (["self"] : List Str), (defScope s_Line_ride).names.lookup x = some .local ∨ (defScope s_Line_ride).names.lookup x = some .cell := by decide +kernel
theorem bi_Line_ride {K : PySem.W.Frag} : ∀ (f : Addr) (fd : FuncData), Fun K "ride" "Line.ride" s_Line_ride f fd → Binds K fd ["self"] [] := fun _ _ F => F.binds fun _ _ _ _ _ _ us hl => match us, hl with | [_], _ => rfl
theorem pl_Line_ride : ∀ x ∈ (["self"] : List Str), (x == ("__debug__" : Str)) = false ∧ (x == ("__classdict__" : Str)) = false := by decide +kernel
abbrev s_Line_call : Stmt := inClass (top 23) 5
theorem sc_Line_call : FnScope ["self", "time"] ["self", "time"] (defScope s_Line_call) := ⟨rfl, rfl, rfl, by decide +kernel, rfl, by decide +kernel, by decide +kernel⟩
theorem lo_Line_call : ∀ x ∈ (["self", "time"] : List Str), (defScope s_Line_call).names.lookup x = some .local ∨ (defScope s_Line_call).names.lookup x = some .cell := by decide +kernel
theorem bi_Line_call {K : PySem.W.Frag} : ∀ (f : Addr) (fd : FuncData), Fun K "__call__" "Line.__call__" s_Line_call f fd → Binds K fd ["self", "time"] [] := fun _ _ F => F.binds fun _ _ _ _ _ _ us hl => match us, hl with | [_, _], _ => rfl
theorem pl_Line_call : ∀ x ∈ (["self", "time"] : List Str), (x == ("__debug__" : Str)) = false ∧ (x == ("__classdict__" : Str)) = false := by decide +kernel
abbrev s_Line_departure : Stmt := inClass (top 23) 6
theorem sc_Line_departure : FnScope ["self", "time"] ["self", "time"] (defScope s_Line_departure) := ⟨rfl, rfl, rfl, by decide +kernel, rfl, by decide +kernel, by decide +kernel⟩
theorem lo_Line_departure : ∀ x ∈ (["self", "time"] : List Str), (defScope s_Line_departure).names.lookup x = some .local ∨ (defScope s_Line_departure).names.lookup x = some .cell := by decide +kernel
theorem bi_Line_departure {K : PySem.W.Frag} : ∀ (f : Addr) (fd : FuncData), Fun K "departure" "Line.departure" s_Line_departure f fd → Binds K fd ["self", "time"] [] := fun _ _ F => F.binds fun _ _ _ _ _ _ us hl => match us, hl with | [_, _], _ => rfl
theorem pl_Line_departure : ∀ x ∈ (["self", "time"] : List Str), (x == ("__debug__" : Str)) = false ∧ (x == ("__classdict__" : Str)) = false := by decide +kernel
abbrev s_Line_latest : Stmt := inClass (top 23) 7
abbrev s_Line_starts : Stmt := inClass (top 23) 8
abbrev s_Line_add : Stmt := inClass (top 23) 9
theorem sc_Line_add : FnScope ["self", "other", "wait", "ride"] ["self", "other"] (defScope s_Line_add) := ⟨rfl, rfl, rfl, by decide +kernel, rfl, by decide +kernel, by decide +kernel⟩
theorem lo_Line_add : ∀ x ∈ (["self", "other", "wait", "ride"] : List Str), (defScope s_Line_add).names.lookup x = some .local ∨ (defScope s_Line_add).names.lookup x = some .cell := by decide +kernel
theorem bi_Line_add {K : PySem.W.Frag} : ∀ (f : Addr) (fd : FuncData), Fun K "__add__" "Line.__add__" s_Line_add f fd → Binds K fd ["self", "other"] [] := fun _ _ F => F.binds fun _ _ _ _ _ _ us hl => match us, hl with | [_, _], _ => rfl
theorem pl_Line_add : ∀ x ∈ (["self", "other", "wait", "ride"] : List Str), (x == ("__debug__" : Str)) = false ∧ (x == ("__classdict__" : Str)) = false := by decide +kernel
abbrev s_Line_mul : Stmt := inClass (top 23) 10
theorem sc_Line_mul : FnScope ["self", "other", "wait"] ["self", "other"] (defScope s_Line_mul) := ⟨rfl, rfl, rfl, by decide +kernel, rfl, by decide +kernel, by decide +kernel⟩
theorem lo_Line_mul : ∀ x ∈ (["self", "other", "wait"] : List Str), (defScope s_Line_mul).names.lookup x = some .local ∨ (defScope s_Line_mul).names.lookup x = some .cell := by decide +kernel
theorem bi_Line_mul {K : PySem.W.Frag} : ∀ (f : Addr) (fd : FuncData), Fun K "__mul__" "Line.__mul__" s_Line_mul f fd → Binds K fd ["self", "other"] [] := fun _ _ F => F.binds fun _ _ _ _ _ _ us hl => match us, hl with | [_, _], _ => rfl
theorem pl_Line_mul : ∀ x ∈ (["self", "other", "wait"] : List Str), (x == ("__debug__" : Str)) = false ∧ (x == ("__classdict__" : Str)) = false := by decide +kernel
abbrev s_Line_never_later : Stmt := inClass (top 23) 11
abbrev s_Line_eq : Stmt := inClass (top 23) 12
theorem sc_Line_eq : FnScope ["self", "other"] ["self", "other"] (defScope s_Line_eq) := ⟨rfl, rfl, rfl, by decide +kernel, rfl, by decide +kernel, by decide +kernel⟩
theorem lo_Line_eq : ∀ x ∈ (["self", "other"] : List Str), (defScope s_Line_eq).names.lookup x = some .local ∨ (defScope s_Line_eq).names.lookup x = some .cell := by decide +kernel
theorem bi_Line_eq {K : PySem.W.Frag} : ∀ (f : Addr) (fd : FuncData), Fun K "__eq__" "Line.__eq__" s_Line_eq f fd → Binds K fd ["self", "other"] [] := fun _ _ F => F.binds fun _ _ _ _ _ _ us hl => match us, hl with | [_, _], _ => rfl
theorem pl_Line_eq : ∀ x ∈ (["self", "other"] : List Str), (x == ("__debug__" : Str)) = false ∧ (x == ("__classdict__" : Str)) = false := by decide +kernel
abbrev s_Line_backward : Stmt := inClass (top 23) 13
abbrev s_Line_text : Stmt := inClass (top 23) 14
theorem sc_Line_text : FnScope ["self"] ["self"] (defScope s_Line_text) := ⟨rfl, rfl, rfl, by decide +kernel, rfl, by decide +kernel, by decide +kernel⟩
theorem lo_Line_text : ∀ x ∈ (["self"] : List Str), (defScope s_Line_text).names.lookup x = some .local ∨ (defScope s_Line_text).names.lookup x = some .cell := by decide +kernel
theorem bi_Line_text {K : PySem.W.Frag} : ∀ (f : Addr) (fd : FuncData), Fun K "text" "Line.text" s_Line_text f fd → Binds K fd ["self"] [] := fun _ _ F => F.binds fun _ _ _ _ _ _ us hl => match us, hl with | [_], _ => rfl
theorem pl_Line_text : ∀ x ∈ (["self"] : List Str), (x == ("__debug__" : Str)) = false ∧ (x == ("__classdict__" : Str)) = false := by decide +kernel
abbrev s_Walk_init : Stmt := inClass (top 24) 1
abbrev s_Walk_text : Stmt := inClass (top 24) 2
theorem sc_Walk_text : FnScope ["self"] ["self"] (defScope s_Walk_text) := ⟨rfl, rfl, rfl, by decide +kernel, rfl, by decide +kernel, by decide +kernel⟩
theorem lo_Walk_text : ∀ x ∈ (["self"] : List Str), (defScope s_Walk_text).names.lookup x = some .local ∨ (defScope s_Walk_text).names.lookup x = some .cell := by decide +kernel
theorem bi_Walk_text {K : PySem.W.Frag} : ∀ (f : Addr) (fd : FuncData), Fun K "text" "Walk.text" s_Walk_text f fd → Binds K fd ["self"] [] := fun _ _ F => F.binds fun _ _ _ _ _ _ us hl => match us, hl with | [_], _ => rfl
theorem pl_Walk_text : ∀ x ∈ (["self"] : List Str), (x == ("__debug__" : Str)) = false ∧ (x == ("__classdict__" : Str)) = false := by decide +kernel
abbrev s_Stop_init : Stmt := inClass (top 25) 1
abbrev s_Stop_text : Stmt := inClass (top 25) 2
theorem sc_Stop_text : FnScope ["self"] ["self"] (defScope s_Stop_text) := ⟨rfl, rfl, rfl, by decide +kernel, rfl, by decide +kernel, by decide +kernel⟩
theorem lo_Stop_text : ∀ x ∈ (["self"] : List Str), (defScope s_Stop_text).names.lookup x = some .local ∨ (defScope s_Stop_text).names.lookup x = some .cell := by decide +kernel
theorem bi_Stop_text {K : PySem.W.Frag} : ∀ (f : Addr) (fd : FuncData), Fun K "text" "Stop.text" s_Stop_text f fd → Binds K fd ["self"] [] := fun _ _ F => F.binds fun _ _ _ _ _ _ us hl => match us, hl with | [_], _ => rfl
theorem pl_Stop_text : ∀ x ∈ (["self"] : List Str), (x == ("__debug__" : Str)) = false ∧ (x == ("__classdict__" : Str)) = false := by decide +kernel
abbrev s_Route_init : Stmt := inClass (top 28) 0
theorem sc_Route_init : FnScope ["self", "legs", "leg"] ["self", "legs"] (defScope s_Route_init) := ⟨rfl, rfl, rfl, by decide +kernel, rfl, by decide +kernel, by decide +kernel⟩
theorem lo_Route_init : ∀ x ∈ (["self", "legs"] : List Str), (defScope s_Route_init).names.lookup x = some .local ∨ (defScope s_Route_init).names.lookup x = some .cell := by decide +kernel
theorem bs_Route_init {K : PySem.W.Frag} : ∀ (f : Addr) (fd : FuncData), Fun K "__init__" "Route.__init__" s_Route_init f fd → ∀ us rest : List Value, us.length = (["self"] : List Str).length → bindArgs fd ⟨us ++ rest, []⟩ = (newTuple rest >>= fun t => pure ((["self"] : List Str).zip us ++ [(("legs" : Str), t)])) := fun f fd F => by
  obtain ⟨oc, od, kV, doc, pm, an, cdv, ct, osl, rfl, lk, hcd⟩ := F.ex
  exact StX.bind_star1 (p1 := "self") (pv := "legs") (B := fun xs => bindArgs _ ⟨xs, []⟩) (fun _ => rfl) (fun _ _ _ => rfl)
theorem pl_Route_init : ∀ x ∈ (["self", "legs"] : List Str), (x == ("__debug__" : Str)) = false ∧ (x == ("__classdict__" : Str)) = false := by decide +kernel
abbrev s_Route_of : Stmt := inClass (top 28) 1
theorem sc_Route_of : FnScope ["cls", "legs"] ["cls", "legs"] (defScope s_Route_of) := ⟨rfl, rfl, rfl, by decide +kernel, rfl, by decide +kernel, by decide +kernel⟩
theorem lo_Route_of : ∀ x ∈ (["cls", "legs"] : List Str), (defScope s_Route_of).names.lookup x = some .local ∨ (defScope s_Route_of).names.lookup x = some .cell := by decide +kernel
theorem bi_Route_of {K : PySem.W.Frag} : ∀ (f : Addr) (fd : FuncData), Fun K "of" "Route.of" s_Route_of f fd → Binds K fd ["cls", "legs"] [] := fun _ _ F => F.binds fun _ _ _ _ _ _ us hl => match us, hl with | [_, _], _ => rfl
theorem pl_Route_of : ∀ x ∈ (["cls", "legs"] : List Str), (x == ("__debug__" : Str)) = false ∧ (x == ("__classdict__" : Str)) = false := by decide +kernel
abbrev s_Route_legs : Stmt := inClass (top 28) 2
theorem sc_Route_legs : FnScope ["self"] ["self"] (defScope s_Route_legs) := ⟨rfl, rfl, rfl, by decide +kernel, rfl, by decide +kernel, by decide +kernel⟩
theorem lo_Route_legs : ∀ x ∈ (["self"] : List Str), (defScope s_Route_legs).names.lookup x = some .local ∨ (defScope s_Route_legs).names.lookup x = some .cell := by decide +kernel
theorem bi_Route_legs {K : PySem.W.Frag} : ∀ (f : Addr) (fd : FuncData), Fun K "legs" "Route.legs" s_Route_legs f fd → Binds K fd ["self"] [] := fun _ _ F => F.binds fun _ _ _ _ _ _ us hl => match us, hl with | [_], _ => rfl
theorem pl_Route_legs : ∀ x ∈ (["self"] : List Str), (x == ("__debug__" : Str)) = false ∧ (x == ("__classdict__" : Str)) = false := by decide +kernel
abbrev s_Route_len : Stmt := inClass (top 28) 3
theorem sc_Route_len : FnScope ["self"] ["self"] (defScope s_Route_len) := ⟨rfl, rfl, rfl, by decide +kernel, rfl, by decide +kernel, by decide +kernel⟩
theorem lo_Route_len : ∀ x ∈ (["self"] : List Str), (defScope s_Route_len).names.lookup x = some .local ∨ (defScope s_Route_len).names.lookup x = some .cell := by decide +kernel
theorem bi_Route_len {K : PySem.W.Frag} : ∀ (f : Addr) (fd : FuncData), Fun K "__len__" "Route.__len__" s_Route_len f fd → Binds K fd ["self"] [] := fun _ _ F => F.binds fun _ _ _ _ _ _ us hl => match us, hl with | [_], _ => rfl
theorem pl_Route_len : ∀ x ∈ (["self"] : List Str), (x == ("__debug__" : Str)) = false ∧ (x == ("__classdict__" : Str)) = false := by decide +kernel
abbrev s_Route_call : Stmt := inClass (top 28) 4
theorem sc_Route_call : FnScope ["self", "time", "leg"] ["self", "time"] (defScope s_Route_call) := ⟨rfl, rfl, rfl, by decide +kernel, rfl, by decide +kernel, by decide +kernel⟩
theorem lo_Route_call : ∀ x ∈ (["self", "time", "leg"] : List Str), (defScope s_Route_call).names.lookup x = some .local ∨ (defScope s_Route_call).names.lookup x = some .cell := by decide +kernel
theorem bi_Route_call {K : PySem.W.Frag} : ∀ (f : Addr) (fd : FuncData), Fun K "__call__" "Route.__call__" s_Route_call f fd → Binds K fd ["self", "time"] [] := fun _ _ F => F.binds fun _ _ _ _ _ _ us hl => match us, hl with | [_, _], _ => rfl
theorem pl_Route_call : ∀ x ∈ (["self", "time", "leg"] : List Str), (x == ("__debug__" : Str)) = false ∧ (x == ("__classdict__" : Str)) = false := by decide +kernel
abbrev s_Route_add : Stmt := inClass (top 28) 5
theorem sc_Route_add : FnScope ["self", "other", "legs"] ["self", "other"] (defScope s_Route_add) := ⟨rfl, rfl, rfl, by decide +kernel, rfl, by decide +kernel, by decide +kernel⟩
theorem lo_Route_add : ∀ x ∈ (["self", "other", "legs"] : List Str), (defScope s_Route_add).names.lookup x = some .local ∨ (defScope s_Route_add).names.lookup x = some .cell := by decide +kernel
theorem bi_Route_add {K : PySem.W.Frag} : ∀ (f : Addr) (fd : FuncData), Fun K "__add__" "Route.__add__" s_Route_add f fd → Binds K fd ["self", "other"] [] := fun _ _ F => F.binds fun _ _ _ _ _ _ us hl => match us, hl with | [_, _], _ => rfl
theorem pl_Route_add : ∀ x ∈ (["self", "other", "legs"] : List Str), (x == ("__debug__" : Str)) = false ∧ (x == ("__classdict__" : Str)) = false := by decide +kernel
abbrev s_Route_line : Stmt := inClass (top 28) 6
theorem sc_Route_line : FnScope ["self", "joined", "leg"] ["self"] (defScope s_Route_line) := ⟨rfl, rfl, rfl, by decide +kernel, rfl, by decide +kernel, by decide +kernel⟩
theorem lo_Route_line : ∀ x ∈ (["self", "joined", "leg"] : List Str), (defScope s_Route_line).names.lookup x = some .local ∨ (defScope s_Route_line).names.lookup x = some .cell := by decide +kernel
theorem bi_Route_line {K : PySem.W.Frag} : ∀ (f : Addr) (fd : FuncData), Fun K "line" "Route.line" s_Route_line f fd → Binds K fd ["self"] [] := fun _ _ F => F.binds fun _ _ _ _ _ _ us hl => match us, hl with | [_], _ => rfl
theorem pl_Route_line : ∀ x ∈ (["self", "joined", "leg"] : List Str), (x == ("__debug__" : Str)) = false ∧ (x == ("__classdict__" : Str)) = false := by decide +kernel
abbrev s_Route_departures : Stmt := inClass (top 28) 7
abbrev s_Route_latest : Stmt := inClass (top 28) 8
abbrev s_Route_backward : Stmt := inClass (top 28) 9
abbrev s_Route_part : Stmt := inClass (top 28) 10
abbrev s_check_leg : Stmt := top 30
theorem sc_check_leg : FnScope ["route", "index"] ["route", "index"] (defScope s_check_leg) := ⟨rfl, rfl, rfl, by decide +kernel, rfl, by decide +kernel, by decide +kernel⟩
theorem lo_check_leg : ∀ x ∈ (["route", "index"] : List Str), (defScope s_check_leg).names.lookup x = some .local ∨ (defScope s_check_leg).names.lookup x = some .cell := by decide +kernel
theorem bi_check_leg {K : PySem.W.Frag} : ∀ (f : Addr) (fd : FuncData), Fun K "check_leg" "check_leg" s_check_leg f fd → Binds K fd ["route", "index"] [] := fun _ _ F => F.binds fun _ _ _ _ _ _ us hl => match us, hl with | [_, _], _ => rfl
theorem pl_check_leg : ∀ x ∈ (["route", "index"] : List Str), (x == ("__debug__" : Str)) = false ∧ (x == ("__classdict__" : Str)) = false := by decide +kernel
abbrev s_line_of : Stmt := top 31
theorem sc_line_of : FnScope ["legs"] ["legs"] (defScope s_line_of) := ⟨rfl, rfl, rfl, by decide +kernel, rfl, by decide +kernel, by decide +kernel⟩
theorem lo_line_of : ∀ x ∈ (["legs"] : List Str), (defScope s_line_of).names.lookup x = some .local ∨ (defScope s_line_of).names.lookup x = some .cell := by decide +kernel
theorem bi_line_of {K : PySem.W.Frag} : ∀ (f : Addr) (fd : FuncData), Fun K "line_of" "line_of" s_line_of f fd → Binds K fd ["legs"] [] := fun _ _ F => F.binds fun _ _ _ _ _ _ us hl => match us, hl with | [_], _ => rfl
theorem pl_line_of : ∀ x ∈ (["legs"] : List Str), (x == ("__debug__" : Str)) = false ∧ (x == ("__classdict__" : Str)) = false := by decide +kernel
abbrev s_sides : Stmt := top 33
theorem sc_sides : FnScope ["route", "index", "legs"] ["route", "index"] (defScope s_sides) := ⟨rfl, rfl, rfl, by decide +kernel, rfl, by decide +kernel, by decide +kernel⟩
theorem lo_sides : ∀ x ∈ (["route", "index", "legs"] : List Str), (defScope s_sides).names.lookup x = some .local ∨ (defScope s_sides).names.lookup x = some .cell := by decide +kernel
theorem bi_sides {K : PySem.W.Frag} : ∀ (f : Addr) (fd : FuncData), Fun K "sides" "sides" s_sides f fd → Binds K fd ["route", "index"] [] := fun _ _ F => F.binds fun _ _ _ _ _ _ us hl => match us, hl with | [_, _], _ => rfl
theorem pl_sides : ∀ x ∈ (["route", "index", "legs"] : List Str), (x == ("__debug__" : Str)) = false ∧ (x == ("__classdict__" : Str)) = false := by decide +kernel
abbrev s_least_waits : Stmt := top 34
theorem sc_least_waits : FnScope ["before", "leg", "after"] ["before", "leg", "after"] (defScope s_least_waits) := ⟨rfl, rfl, rfl, by decide +kernel, rfl, by decide +kernel, by decide +kernel⟩
theorem lo_least_waits : ∀ x ∈ (["before", "leg", "after"] : List Str), (defScope s_least_waits).names.lookup x = some .local ∨ (defScope s_least_waits).names.lookup x = some .cell := by decide +kernel
theorem bi_least_waits {K : PySem.W.Frag} : ∀ (f : Addr) (fd : FuncData), Fun K "least_waits" "least_waits" s_least_waits f fd → Binds K fd ["before", "leg", "after"] [] := fun _ _ F => F.binds fun _ _ _ _ _ _ us hl => match us, hl with | [_, _, _], _ => rfl
theorem pl_least_waits : ∀ x ∈ (["before", "leg", "after"] : List Str), (x == ("__debug__" : Str)) = false ∧ (x == ("__classdict__" : Str)) = false := by decide +kernel
abbrev s_best_block : Stmt := top 35
theorem sc_best_block : FnScope ["before", "leg", "after", "waits", "ready", "gap", "period", "first"] ["before", "leg", "after"] (defScope s_best_block) := ⟨rfl, rfl, rfl, by decide +kernel, rfl, by decide +kernel, by decide +kernel⟩
theorem lo_best_block : ∀ x ∈ (["before", "leg", "after", "waits", "ready", "gap", "period", "first"] : List Str), (defScope s_best_block).names.lookup x = some .local ∨ (defScope s_best_block).names.lookup x = some .cell := by decide +kernel
theorem bi_best_block {K : PySem.W.Frag} : ∀ (f : Addr) (fd : FuncData), Fun K "best_block" "best_block" s_best_block f fd → Binds K fd ["before", "leg", "after"] [] := fun _ _ F => F.binds fun _ _ _ _ _ _ us hl => match us, hl with | [_, _, _], _ => rfl
theorem pl_best_block : ∀ x ∈ (["before", "leg", "after", "waits", "ready", "gap", "period", "first"] : List Str), (x == ("__debug__" : Str)) = false ∧ (x == ("__classdict__" : Str)) = false := by decide +kernel
abbrev s_best_ride : Stmt := top 36
theorem sc_best_ride : FnScope ["route", "index", "before", "leg", "after"] ["route", "index"] (defScope s_best_ride) := ⟨rfl, rfl, rfl, by decide +kernel, rfl, by decide +kernel, by decide +kernel⟩
theorem lo_best_ride : ∀ x ∈ (["route", "index", "before", "leg", "after"] : List Str), (defScope s_best_ride).names.lookup x = some .local ∨ (defScope s_best_ride).names.lookup x = some .cell := by decide +kernel
theorem bi_best_ride {K : PySem.W.Frag} : ∀ (f : Addr) (fd : FuncData), Fun K "best_ride" "best_ride" s_best_ride f fd → Binds K fd ["route", "index"] [] := fun _ _ F => F.binds fun _ _ _ _ _ _ us hl => match us, hl with | [_, _], _ => rfl
theorem kr_best_ride_gR2 {K : PySem.W.Frag} : ∀ (f : Addr) (fd : FuncData), Fun K "best_ride" "best_ride" s_best_ride f fd → ∀ (s : Shared) (ws : List Value), ws.length = 2 → BindsTo s fd ⟨[], (["index", "route"] : List Str).zip ws⟩ ((["route", "index"] : List Str).zip (gR2 ws)) := fun _ _ F s ws hl => by
  obtain ⟨oc, od, kV, doc, pm, an, cdv, ct, osl, rfl, lk, hcd⟩ := F.ex
  match ws, hl with
  | [_, _], _ => exact .of_eq rfl
theorem pl_best_ride : ∀ x ∈ (["route", "index", "before", "leg", "after"] : List Str), (x == ("__debug__" : Str)) = false ∧ (x == ("__classdict__" : Str)) = false := by decide +kernel
abbrev s_count_best : Stmt := top 37
theorem sc_count_best : FnScope ["route", "index", "before", "leg", "after", "length", "period"] ["route", "index"] (defScope s_count_best) := ⟨rfl, rfl, rfl, by decide +kernel, rfl, by decide +kernel, by decide +kernel⟩
theorem lo_count_best : ∀ x ∈ (["route", "index", "before", "leg", "after", "length", "period"] : List Str), (defScope s_count_best).names.lookup x = some .local ∨ (defScope s_count_best).names.lookup x = some .cell := by decide +kernel
theorem bi_count_best {K : PySem.W.Frag} : ∀ (f : Addr) (fd : FuncData), Fun K "count_best" "count_best" s_count_best f fd → Binds K fd ["route", "index"] [] := fun _ _ F => F.binds fun _ _ _ _ _ _ us hl => match us, hl with | [_, _], _ => rfl
theorem kr_count_best_gR2 {K : PySem.W.Frag} : ∀ (f : Addr) (fd : FuncData), Fun K "count_best" "count_best" s_count_best f fd → ∀ (s : Shared) (ws : List Value), ws.length = 2 → BindsTo s fd ⟨[], (["index", "route"] : List Str).zip ws⟩ ((["route", "index"] : List Str).zip (gR2 ws)) := fun _ _ F s ws hl => by
  obtain ⟨oc, od, kV, doc, pm, an, cdv, ct, osl, rfl, lk, hcd⟩ := F.ex
  match ws, hl with
  | [_, _], _ => exact .of_eq rfl
theorem pl_count_best : ∀ x ∈ (["route", "index", "before", "leg", "after", "length", "period"] : List Str), (x == ("__debug__" : Str)) = false ∧ (x == ("__classdict__" : Str)) = false := by decide +kernel
abbrev s_is_best : Stmt := top 38
theorem sc_is_best : FnScope ["route", "index", "at", "before", "leg", "after", "first", "length", "period"] ["route", "index", "at"] (defScope s_is_best) := ⟨rfl, rfl, rfl, by decide +kernel, rfl, by decide +kernel, by decide +kernel⟩
theorem lo_is_best : ∀ x ∈ (["route", "index", "at", "before", "leg", "after", "first", "length", "period"] : List Str), (defScope s_is_best).names.lookup x = some .local ∨ (defScope s_is_best).names.lookup x = some .cell := by decide +kernel
theorem bi_is_best {K : PySem.W.Frag} : ∀ (f : Addr) (fd : FuncData), Fun K "is_best" "is_best" s_is_best f fd → Binds K fd ["route", "index", "at"] [] := fun _ _ F => F.binds fun _ _ _ _ _ _ us hl => match us, hl with | [_, _, _], _ => rfl
theorem kr_is_best_gR3 {K : PySem.W.Frag} : ∀ (f : Addr) (fd : FuncData), Fun K "is_best" "is_best" s_is_best f fd → ∀ (s : Shared) (ws : List Value), ws.length = 3 → BindsTo s fd ⟨[], (["at", "index", "route"] : List Str).zip ws⟩ ((["route", "index", "at"] : List Str).zip (gR3 ws)) := fun _ _ F s ws hl => by
  obtain ⟨oc, od, kV, doc, pm, an, cdv, ct, osl, rfl, lk, hcd⟩ := F.ex
  match ws, hl with
  | [_, _, _], _ => exact .of_eq rfl
theorem pl_is_best : ∀ x ∈ (["route", "index", "at", "before", "leg", "after", "first", "length", "period"] : List Str), (x == ("__debug__" : Str)) = false ∧ (x == ("__classdict__" : Str)) = false := by decide +kernel
abbrev s_nth_best : Stmt := top 39
theorem sc_nth_best : FnScope ["route", "index", "number", "before", "leg", "after", "first", "length", "period", "periods", "place", "beyond"] ["route", "index", "number"] (defScope s_nth_best) := ⟨rfl, rfl, rfl, by decide +kernel, rfl, by decide +kernel, by decide +kernel⟩
theorem lo_nth_best : ∀ x ∈ (["route", "index", "number", "before", "leg", "after", "first", "length", "period", "periods", "place", "beyond"] : List Str), (defScope s_nth_best).names.lookup x = some .local ∨ (defScope s_nth_best).names.lookup x = some .cell := by decide +kernel
theorem bi_nth_best {K : PySem.W.Frag} : ∀ (f : Addr) (fd : FuncData), Fun K "nth_best" "nth_best" s_nth_best f fd → Binds K fd ["route", "index", "number"] [] := fun _ _ F => F.binds fun _ _ _ _ _ _ us hl => match us, hl with | [_, _, _], _ => rfl
theorem kr_nth_best_gR3 {K : PySem.W.Frag} : ∀ (f : Addr) (fd : FuncData), Fun K "nth_best" "nth_best" s_nth_best f fd → ∀ (s : Shared) (ws : List Value), ws.length = 3 → BindsTo s fd ⟨[], (["number", "index", "route"] : List Str).zip ws⟩ ((["route", "index", "number"] : List Str).zip (gR3 ws)) := fun _ _ F s ws hl => by
  obtain ⟨oc, od, kV, doc, pm, an, cdv, ct, osl, rfl, lk, hcd⟩ := F.ex
  match ws, hl with
  | [_, _, _], _ => exact .of_eq rfl
theorem pl_nth_best : ∀ x ∈ (["route", "index", "number", "before", "leg", "after", "first", "length", "period", "periods", "place", "beyond"] : List Str), (x == ("__debug__" : Str)) = false ∧ (x == ("__classdict__" : Str)) = false := by decide +kernel
abbrev s_tape : Stmt := top 41
theorem sc_tape : FnScope ["script", "k", "cell"] ["script", "k"] (defScope s_tape) := ⟨rfl, rfl, rfl, by decide +kernel, rfl, by decide +kernel, by decide +kernel⟩
theorem lo_tape : ∀ x ∈ (["script", "k", "cell"] : List Str), (defScope s_tape).names.lookup x = some .local ∨ (defScope s_tape).names.lookup x = some .cell := by decide +kernel
theorem bi_tape {K : PySem.W.Frag} : ∀ (f : Addr) (fd : FuncData), Fun K "_law_tape" "_law_tape" s_tape f fd → Binds K fd ["script", "k"] [] := fun _ _ F => F.binds fun _ _ _ _ _ _ us hl => match us, hl with | [_, _], _ => rfl
theorem pl_tape : ∀ x ∈ (["script", "k", "cell"] : List Str), (x == ("__debug__" : Str)) = false ∧ (x == ("__classdict__" : Str)) = false := by decide +kernel
abbrev s_next : Stmt := top 42
theorem sc_next : FnScope ["tape", "many", "digit", "mixed"] ["tape", "many"] (defScope s_next) := ⟨rfl, rfl, rfl, by decide +kernel, rfl, by decide +kernel, by decide +kernel⟩
theorem lo_next : ∀ x ∈ (["tape", "many", "digit", "mixed"] : List Str), (defScope s_next).names.lookup x = some .local ∨ (defScope s_next).names.lookup x = some .cell := by decide +kernel
theorem bi_next {K : PySem.W.Frag} : ∀ (f : Addr) (fd : FuncData), Fun K "_law_next" "_law_next" s_next f fd → Binds K fd ["tape", "many"] [] := fun _ _ F => F.binds fun _ _ _ _ _ _ us hl => match us, hl with | [_, _], _ => rfl
theorem pl_next : ∀ x ∈ (["tape", "many", "digit", "mixed"] : List Str), (x == ("__debug__" : Str)) = false ∧ (x == ("__classdict__" : Str)) = false := by decide +kernel
abbrev s_chain : Stmt := top 43
theorem sc_chain : FnScope ["tape", "most", "found", "turn", "factor"] ["tape", "most"] (defScope s_chain) := ⟨rfl, rfl, rfl, by decide +kernel, rfl, by decide +kernel, by decide +kernel⟩
theorem lo_chain : ∀ x ∈ (["tape", "most", "found", "turn", "factor"] : List Str), (defScope s_chain).names.lookup x = some .local ∨ (defScope s_chain).names.lookup x = some .cell := by decide +kernel
theorem bi_chain {K : PySem.W.Frag} : ∀ (f : Addr) (fd : FuncData), Fun K "_law_chain" "_law_chain" s_chain f fd → Binds K fd ["tape", "most"] [] := fun _ _ F => F.binds fun _ _ _ _ _ _ us hl => match us, hl with | [_, _], _ => rfl
theorem pl_chain : ∀ x ∈ (["tape", "most", "found", "turn", "factor"] : List Str), (x == ("__debug__" : Str)) = false ∧ (x == ("__classdict__" : Str)) = false := by decide +kernel
abbrev s_rows : Stmt := top 44
theorem sc_rows : FnScope ["tape", "many", "most", "chain", "found", "turn", "headway", "ride"] ["tape", "many", "most"] (defScope s_rows) := ⟨rfl, rfl, rfl, by decide +kernel, rfl, by decide +kernel, by decide +kernel⟩
theorem lo_rows : ∀ x ∈ (["tape", "many", "most", "chain", "found", "turn", "headway", "ride"] : List Str), (defScope s_rows).names.lookup x = some .local ∨ (defScope s_rows).names.lookup x = some .cell := by decide +kernel
theorem bi_rows {K : PySem.W.Frag} : ∀ (f : Addr) (fd : FuncData), Fun K "_law_rows" "_law_rows" s_rows f fd → Binds K fd ["tape", "many", "most"] [] := fun _ _ F => F.binds fun _ _ _ _ _ _ us hl => match us, hl with | [_, _, _], _ => rfl
theorem pl_rows : ∀ x ∈ (["tape", "many", "most", "chain", "found", "turn", "headway", "ride"] : List Str), (x == ("__debug__" : Str)) = false ∧ (x == ("__classdict__" : Str)) = false := by decide +kernel
abbrev s_line : Stmt := top 45
theorem sc_line : FnScope ["row"] ["row"] (defScope s_line) := ⟨rfl, rfl, rfl, by decide +kernel, rfl, by decide +kernel, by decide +kernel⟩
theorem lo_line : ∀ x ∈ (["row"] : List Str), (defScope s_line).names.lookup x = some .local ∨ (defScope s_line).names.lookup x = some .cell := by decide +kernel
theorem bi_line {K : PySem.W.Frag} : ∀ (f : Addr) (fd : FuncData), Fun K "_law_line" "_law_line" s_line f fd → Binds K fd ["row"] [] := fun _ _ F => F.binds fun _ _ _ _ _ _ us hl => match us, hl with | [_], _ => rfl
theorem pl_line : ∀ x ∈ (["row"] : List Str), (x == ("__debug__" : Str)) = false ∧ (x == ("__classdict__" : Str)) = false := by decide +kernel
abbrev s_route : Stmt := top 46
theorem sc_route : FnScope ["rows", "row"] ["rows"] (defScope s_route) := ⟨rfl, rfl, rfl, by decide +kernel, rfl, by decide +kernel, by decide +kernel⟩
theorem lo_route : ∀ x ∈ (["rows"] : List Str), (defScope s_route).names.lookup x = some .local ∨ (defScope s_route).names.lookup x = some .cell := by decide +kernel
theorem bi_route {K : PySem.W.Frag} : ∀ (f : Addr) (fd : FuncData), Fun K "_law_route" "_law_route" s_route f fd → Binds K fd ["rows"] [] := fun _ _ F => F.binds fun _ _ _ _ _ _ us hl => match us, hl with | [_], _ => rfl
theorem pl_route : ∀ x ∈ (["rows"] : List Str), (x == ("__debug__" : Str)) = false ∧ (x == ("__classdict__" : Str)) = false := by decide +kernel
abbrev s_class_ : Stmt := top 47
theorem sc_class_ : FnScope ["e"] ["e"] (defScope s_class_) := ⟨rfl, rfl, rfl, by decide +kernel, rfl, by decide +kernel, by decide +kernel⟩
theorem lo_class_ : ∀ x ∈ (["e"] : List Str), (defScope s_class_).names.lookup x = some .local ∨ (defScope s_class_).names.lookup x = some .cell := by decide +kernel
theorem bi_class_ {K : PySem.W.Frag} : ∀ (f : Addr) (fd : FuncData), Fun K "_law_class" "_law_class" s_class_ f fd → Binds K fd ["e"] [] := fun _ _ F => F.binds fun _ _ _ _ _ _ us hl => match us, hl with | [_], _ => rfl
theorem pl_class_ : ∀ x ∈ (["e"] : List Str), (x == ("__debug__" : Str)) = false ∧ (x == ("__classdict__" : Str)) = false := by decide +kernel
abbrev s_asked : Stmt := top 48
theorem sc_asked : FnScope ["door", "trip", "leg_at", "one", "e"] ["door", "trip", "leg_at", "one"] (defScope s_asked) := ⟨rfl, rfl, rfl, by decide +kernel, rfl, by decide +kernel, by decide +kernel⟩
theorem lo_asked : ∀ x ∈ (["door", "trip", "leg_at", "one", "e"] : List Str), (defScope s_asked).names.lookup x = some .local ∨ (defScope s_asked).names.lookup x = some .cell := by decide +kernel
theorem bi_asked {K : PySem.W.Frag} : ∀ (f : Addr) (fd : FuncData), Fun K "_law_asked" "_law_asked" s_asked f fd → Binds K fd ["door", "trip", "leg_at", "one"] [] := fun _ _ F => F.binds fun _ _ _ _ _ _ us hl => match us, hl with | [_, _, _, _], _ => rfl
theorem pl_asked : ∀ x ∈ (["door", "trip", "leg_at", "one", "e"] : List Str), (x == ("__debug__" : Str)) = false ∧ (x == ("__classdict__" : Str)) = false := by decide +kernel
abbrev s_right : Stmt := top 49
theorem sc_right : FnScope ["tape", "rows", "trip", "many", "leg_at", "one", "best", "first", "odd", "leg", "door"] ["tape", "rows"] (defScope s_right) := ⟨rfl, rfl, rfl, by decide +kernel, rfl, by decide +kernel, by decide +kernel⟩
theorem lo_right : ∀ x ∈ (["tape", "rows", "trip", "many", "leg_at", "one", "best", "first", "odd"] : List Str), (defScope s_right).names.lookup x = some .local ∨ (defScope s_right).names.lookup x = some .cell := by decide +kernel
theorem bi_right {K : PySem.W.Frag} : ∀ (f : Addr) (fd : FuncData), Fun K "_law_right" "_law_right" s_right f fd → Binds K fd ["tape", "rows"] [] := fun _ _ F => F.binds fun _ _ _ _ _ _ us hl => match us, hl with | [_, _], _ => rfl
theorem pl_right : ∀ x ∈ (["tape", "rows", "trip", "many", "leg_at", "one", "best", "first", "odd"] : List Str), (x == ("__debug__" : Str)) = false ∧ (x == ("__classdict__" : Str)) = false := by decide +kernel
abbrev s_law : Stmt := top 50
theorem sc_law : FnScope ["script", "k", "tape", "many"] ["script"] (defScope s_law) := ⟨rfl, rfl, rfl, by decide +kernel, rfl, by decide +kernel, by decide +kernel⟩
theorem lo_law : ∀ x ∈ (["script", "k", "tape", "many"] : List Str), (defScope s_law).names.lookup x = some .local ∨ (defScope s_law).names.lookup x = some .cell := by decide +kernel
theorem bi_law {K : PySem.W.Frag} : ∀ (f : Addr) (fd : FuncData), Fun K "law" "law" s_law f fd → Binds K fd ["script"] [] := fun _ _ F => F.binds fun _ _ _ _ _ _ us hl => match us, hl with | [_], _ => rfl
theorem pl_law : ∀ x ∈ (["script", "k", "tape", "many"] : List Str), (x == ("__debug__" : Str)) = false ∧ (x == ("__classdict__" : Str)) = false := by decide +kernel

/-! ### lines: data and promises -/
inductive Kd where
  | line | walk | stop
  deriving DecidableEq
abbrev kdS : Kd → Str
  | .line => "line" | .walk => "walk" | .stop => "stop"
structure Exs where
  HeadwayError : Addr
  InvalidLine : Addr
  InvalidRoute : Addr
  InvalidWishes : Addr
  InvalidFixed : Addr
  InvalidNumber : Addr
  InvalidIndex : Addr
  NotFitting : Addr
  NothingToUndo : Addr
  NotPossible : Addr
  InvalidText : Addr
structure Cs3 where
  l : Addr
  w : Addr
  s : Addr
  r : Addr
  x : Exs
abbrev Cs3.of (c : Cs3) : Kd → Addr
  | .line => c.l | .walk => c.w | .stop => c.s
/-- one class -/
abbrev Is1 (C : Addr) : Addr → Prop := fun D => D = C
abbrev Ln (c : Cs3) : Addr → Prop := fun C => C = c.l ∨ C = c.w ∨ C = c.s
theorem Ln.of (c : Cs3) : ∀ k, Ln c (c.of k)
  | .line => .inl rfl | .walk => .inr (.inl rfl) | .stop => .inr (.inr rfl)
abbrev lf (e t r : Int) : List (Str × V) := [("_every", .int e), ("_at", .int t), ("_ride", .int r)]
abbrev lineO (C dx : Addr) (e t r : Int) : HO := .ins C dx (lf e t r)
theorem n1 : ¬ (("_every" : Str) = "_at") := by decide +kernel
theorem n2 : ¬ (("_every" : Str) = "_ride") := by decide +kernel
theorem n3 : ¬ (("_at" : Str) = "_ride") := by decide +kernel
theorem put1 (v : V) : putF "_every" v [] = ([("_every", v)] : List (Str × V)) := rfl
theorem put2 (u v : V) : putF "_at" v ([("_every", u)] : List (Str × V)) = ([("_every", u), ("_at", v)] : List (Str × V)) := by
  show (if ("_every" : Str) = "_at" then [(("_every" : Str), v)] else (("_every" : Str), u) :: putF "_at" v []) = ([("_every", u), ("_at", v)] : List (Str × V))
  rw [if_neg n1]; rfl
theorem put3 (u v x : V) : putF "_ride" x ([("_every", u), ("_at", v)] : List (Str × V)) = ([("_every", u), ("_at", v), ("_ride", x)] : List (Str × V)) := by
  show (if ("_every" : Str) = "_ride" then _ else (("_every" : Str), u) :: (if ("_at" : Str) = "_ride" then [(("_at" : Str), x)] else (("_at" : Str), v) :: putF "_ride" x [])) = ([("_every", u), ("_at", v), ("_ride", x)] : List (Str × V))
  rw [if_neg n2, if_neg n3]; rfl
theorem q1 : (("_at" : Str) == "_every") = false := by decide +kernel
theorem q2 : (("_ride" : Str) == "_every") = false := by decide +kernel
theorem q3 : (("_ride" : Str) == "_at") = false := by decide +kernel
theorem lk_every {e t r : Int} : (lf e t r).lookup ("_every" : Str) = some (.int e) := by rw [List.lookup_cons, beq_self_eq_true]
theorem lk_at {e t r : Int} : (lf e t r).lookup ("_at" : Str) = some (.int t) := by rw [List.lookup_cons, q1, List.lookup_cons, beq_self_eq_true]
theorem lk_ride {e t r : Int} : (lf e t r).lookup ("_ride" : Str) = some (.int r) := by rw [List.lookup_cons, q2, List.lookup_cons, q3, List.lookup_cons, beq_self_eq_true]
theorem lk_no {e t r : Int} {m : Str} (h1 : (m == ("_every" : Str)) = false) (h2 : (m == ("_at" : Str)) = false) (h3 : (m == ("_ride" : Str)) = false) : (lf e t r).lookup m = none := by rw [List.lookup_cons, h1, List.lookup_cons, h2, List.lookup_cons, h3]; rfl
/-- what a class of the family is to the reads -/
structure LnK (K : PySem.W.Frag) (C : Addr) : Prop where
  cls : Cls K C
  n1 : NoAttr K C "_every"
  n2 : NoAttr K C "_at"
  n3 : NoAttr K C "_ride"
section
variable {K : PySem.W.Frag} {L : LL} {Q : V → LL → Prop} {a C dx : Addr} {e t r : Int}
theorem fld_every {B : V → Prop} (ia : At L a (lineO C dx e t r)) (hK : LnK K C) (q : B (.int e)) : ∃ a' C' dx' fs v, V.ref a = .ref a' ∧ At L a' (.ins C' dx' fs) ∧ Cls K C' ∧ NoAttr K C' "_every" ∧ fs.lookup ("_every" : Str) = some v ∧ B v := ⟨a, C, dx, _, _, rfl, ia, hK.cls, hK.n1, lk_every, q⟩
theorem fld_at {B : V → Prop} (ia : At L a (lineO C dx e t r)) (hK : LnK K C) (q : B (.int t)) : ∃ a' C' dx' fs v, V.ref a = .ref a' ∧ At L a' (.ins C' dx' fs) ∧ Cls K C' ∧ NoAttr K C' "_at" ∧ fs.lookup ("_at" : Str) = some v ∧ B v := ⟨a, C, dx, _, _, rfl, ia, hK.cls, hK.n2, lk_at, q⟩
theorem fld_ride {B : V → Prop} (ia : At L a (lineO C dx e t r)) (hK : LnK K C) (q : B (.int r)) : ∃ a' C' dx' fs v, V.ref a = .ref a' ∧ At L a' (.ins C' dx' fs) ∧ Cls K C' ∧ NoAttr K C' "_ride" ∧ fs.lookup ("_ride" : Str) = some v ∧ B v := ⟨a, C, dx, _, _, rfl, ia, hK.cls, hK.n3, lk_ride, q⟩
theorem fld_kind {B : V → Prop} {v : V} {u : Value} (ia : At L a (lineO C dx e t r)) (hK : LnK K C) (hc : Con K C "KIND" v u) (q : B v) : ∃ a' C' dx' fs w u, V.ref a = .ref a' ∧ At L a' (.ins C' dx' fs) ∧ Cls K C' ∧ Con K C' "KIND" w u ∧ fs.lookup ("KIND" : Str) = none ∧ B w :=
  ⟨a, C, dx, _, v, u, rfl, ia, hK.cls, hc, lk_no (by decide +kernel) (by decide +kernel) (by decide +kernel), q⟩
theorem ke_kind {X : Cx} {H0 : Hp} {M : Addr → Prop} {x : Expr} {σ : L2.St} {pos : Pos} (hb : attributeBase x "KIND" X.env (eval x X.env) = eval x X.env) (h : ke X H0 M x σ L fun y L1 => ∃ a C dx fs v u, y = .ref a ∧ At L1 a (.ins C dx fs) ∧ Cls X.K C ∧ Con X.K C "KIND" v u ∧ fs.lookup ("KIND" : Str) = none ∧ Q v L1) : ke X H0 M (.Attribute x "KIND" pos) σ L Q := ke_con hb h
variable {H0 : Hp} {M : Addr → Prop} {nx : LL → Prop} {g : HO → LL} {u v x : V}
theorem set_every (s : Spot L a (.ins C dx []) g) (c : H0 a = none ∨ M a) (hK : LnK K C) (q : nx (g (.ins C dx [("_every", v)]))) : ∃ a' C' dx' fs g', V.ref a = .ref a' ∧ Spot L a' (.ins C' dx' fs) g' ∧ (H0 a' = none ∨ M a') ∧ Cls K C' ∧ NoAttr K C' "_every" ∧ fs.length < 1000 ∧ nx (g' (.ins C' dx' (putF "_every" v fs))) :=
  ⟨a, C, dx, _, g, rfl, s, c, hK.cls, hK.n1, by decide, by rw [put1]; exact q⟩
theorem set_at (s : Spot L a (.ins C dx [("_every", u)]) g) (c : H0 a = none ∨ M a) (hK : LnK K C) (q : nx (g (.ins C dx [("_every", u), ("_at", v)]))) : ∃ a' C' dx' fs g', V.ref a = .ref a' ∧ Spot L a' (.ins C' dx' fs) g' ∧ (H0 a' = none ∨ M a') ∧ Cls K C' ∧ NoAttr K C' "_at" ∧ fs.length < 1000 ∧ nx (g' (.ins C' dx' (putF "_at" v fs))) :=
  ⟨a, C, dx, _, g, rfl, s, c, hK.cls, hK.n2, by show 1 < 1000; decide, by rw [put2]; exact q⟩
theorem set_ride (s : Spot L a (.ins C dx [("_every", u), ("_at", v)]) g) (c : H0 a = none ∨ M a) (hK : LnK K C) (q : nx (g (.ins C dx [("_every", u), ("_at", v), ("_ride", x)]))) : ∃ a' C' dx' fs g', V.ref a = .ref a' ∧ Spot L a' (.ins C' dx' fs) g' ∧ (H0 a' = none ∨ M a') ∧ Cls K C' ∧ NoAttr K C' "_ride" ∧ fs.length < 1000 ∧ nx (g' (.ins C' dx' (putF "_ride" x fs))) :=
  ⟨a, C, dx, _, g, rfl, s, c, hK.cls, hK.n3, by show 2 < 1000; decide, by rw [put3]; exact q⟩
end
/-! ### promises of a line -/
def spIsInt : Sp := fun vs H Q _ => ∃ i : Int, vs = [.int i] ∧ RetP H Q (.bl true) []
/-- a line's method without a change: v comes out -/
def spLine (c : Cs3) (v : Int → Int → Int → Int → V) : Sp := fun vs H Q _ => ∃ a C dx e t r p, vs = [.ref a, .int p] ∧ H a = some (lineO C dx e t r) ∧ Ln c C ∧ 0 < e ∧ RetP H Q (v e t r p) []
def spProp (c : Cs3) (v : Int → Int → Int → V) : Sp := fun vs H Q _ => ∃ a C dx e t r, vs = [.ref a] ∧ H a = some (lineO C dx e t r) ∧ Ln c C ∧ RetP H Q (v e t r) []
abbrev depV (e t _r p : Int) : V := .int (p + (t - p) % e)
abbrev arrV (e t r p : Int) : V := .int (p + (t - p) % e + r)
abbrev latV (e t r p : Int) : V := .int (p - r - (p - r - t) % e)
def spStarts (c : Cs3) : Sp := fun vs H Q _ => ∃ a C dx e t r p, vs = [.ref a, .int p] ∧ H a = some (lineO C dx e t r) ∧ Ln c C ∧ 0 < e ∧
  ((p - r - t) % e = 0 → ∀ q, H q = none → RetP H Q (.ref q) [(q, .tup [.int (p - r - e + 1), .int (p - r)])]) ∧ ((p - r - t) % e ≠ 0 → RetP H Q .non [])
def spInit (c : Cs3) : Sp := fun vs H Q _ => ∃ a C dx e t r, vs = [.ref a, .int e, .int t, .int r] ∧ H a = some (.ins C dx []) ∧ Ln c C ∧ 0 ≤ t ∧ t < e ∧ 0 ≤ r ∧ RetC H Q .non a (lineO C dx e t r) []
section
variable {c : Cs3} {H0 : Hp} {M : Addr → Prop} {L : LL} {Q : V → LL → Prop} {a C dx : Addr} {e t r p : Int} {E : XK} {g : HO → LL}
theorem rs_isInt {i : Int} (q : Q (.bl true) L) : rs H0 M spIsInt E [.int i] L Q := fun H z => ⟨i, rfl, z.p0 q⟩
theorem rs_line {v : Int → Int → Int → Int → V} (ia : At L a (lineO C dx e t r)) (hC : Ln c C) (he : 0 < e) (q : Q (v e t r p) L) : rs H0 M (spLine c v) E [.ref a, .int p] L Q := fun H z => ⟨a, C, dx, e, t, r, p, rfl, z.get ia, hC, he, z.p0 q⟩
theorem rs_prop {v : Int → Int → Int → V} (ia : At L a (lineO C dx e t r)) (hC : Ln c C) (q : Q (v e t r) L) : rs H0 M (spProp c v) E [.ref a] L Q := fun H z => ⟨a, C, dx, e, t, r, rfl, z.get ia, hC, z.p0 q⟩
theorem rs_starts (ia : At L a (lineO C dx e t r)) (hC : Ln c C) (he : 0 < e) (q1 : (p - r - t) % e = 0 → ∀ q, H0 q = none → Q (.ref q) ((q, .tup [.int (p - r - e + 1), .int (p - r)]) :: L)) (q2 : (p - r - t) % e ≠ 0 → Q .non L) : rs H0 M (spStarts c) E [.ref a, .int p] L Q :=
  fun H z => ⟨a, C, dx, e, t, r, p, rfl, z.get ia, hC, he, fun h q n => z.pp (q1 h q (z.fresh n)), fun h => z.p0 (q2 h)⟩
theorem rs_init (s : Spot L a (.ins C dx []) g) (cc : H0 a = none ∨ M a) (hC : Ln c C) (h1 : 0 ≤ t) (h2 : t < e) (h3 : 0 ≤ r) (q : Q .non (g (lineO C dx e t r))) : rs H0 M (spInit c) E [.ref a, .int e, .int t, .int r] L Q :=
  fun H z => ⟨a, C, dx, e, t, r, rfl, z.at_ _ s.mem, hC, h1, h2, h3, z.c0 s cc q⟩
/-- the receiver of a method of a line -/
theorem recv {m : Str} {B : Addr → Prop} (ia : At L a (lineO C dx e t r)) (hC : Ln c C) (h1 : (m == ("_every" : Str)) = false) (h2 : (m == ("_at" : Str)) = false) (h3 : (m == ("_ride" : Str)) = false) (q : B a) :
    ∃ a' C' dx' fs, V.ref a = .ref a' ∧ At L a' (.ins C' dx' fs) ∧ Ln c C' ∧ fs.lookup m = none ∧ B a' := ⟨a, C, dx, _, rfl, ia, hC, lk_no h1 h2 h3, q⟩
theorem recvP {B : Addr → Prop} (ia : At L a (lineO C dx e t r)) (hC : Ln c C) (q : B a) :
    ∃ a' C' dx' fs, V.ref a = .ref a' ∧ At L a' (.ins C' dx' fs) ∧ Ln c C' ∧ B a' := ⟨a, C, dx, _, rfl, ia, hC, q⟩
theorem recvO (ia : At L a (lineO C dx e t r)) (hC : Ln c C) : ∃ C' dx' fs, At L a (.ins C' dx' fs) ∧ Ln c C' := ⟨C, dx, _, ia, hC⟩
end
def spWalk (c : Cs3) : Sp := fun vs H Q _ => ∃ a dx r, vs = [.ref a, .int r] ∧ H a = some (.ins c.w dx []) ∧ 0 ≤ r ∧ RetC H Q .non a (lineO c.w dx 1 0 r) []
def spStop (c : Cs3) : Sp := fun vs H Q _ => ∃ a dx e t, vs = [.ref a, .int e, .int t] ∧ H a = some (.ins c.s dx []) ∧ 0 ≤ t ∧ t < e ∧ RetC H Q .non a (lineO c.s dx e t 0) []
section
variable {c : Cs3} {H0 : Hp} {M : Addr → Prop} {L : LL} {Q : V → LL → Prop} {a C dx : Addr} {e t r p : Int} {E : XK} {g : HO → LL}
theorem rs_walk (s : Spot L a (.ins c.w dx []) g) (cc : H0 a = none ∨ M a) (h3 : 0 ≤ r) (q : Q .non (g (lineO c.w dx 1 0 r))) : rs H0 M (spWalk c) E [.ref a, .int r] L Q := fun H z => ⟨a, dx, r, rfl, z.at_ _ s.mem, h3, z.c0 s cc q⟩
theorem rs_stop (s : Spot L a (.ins c.s dx []) g) (cc : H0 a = none ∨ M a) (h1 : 0 ≤ t) (h2 : t < e) (q : Q .non (g (lineO c.s dx e t 0))) : rs H0 M (spStop c) E [.ref a, .int e, .int t] L Q := fun H z => ⟨a, dx, e, t, rfl, z.at_ _ s.mem, h1, h2, z.c0 s cc q⟩
end

/-! ### headways that fit -/
def spAllFit : Sp := fun vs H Q _ => ∃ (q : Addr) (is : List Int), vs = [.ref q] ∧ H q = some (.lst (is.map V.int)) ∧ (∀ x ∈ is, 1 ≤ x) ∧ is.length ≤ 1000 ∧ ∀ b : Bool, (b = true ↔ is.Pairwise FitI) → RetP H Q (.bl b) []
theorem rs_allFit {H0 : Hp} {M : Addr → Prop} {L : LL} {Q : V → LL → Prop} {q : Addr} {is : List Int} {E : XK} (ia : At L q (.lst (is.map V.int))) (h1 : ∀ x ∈ is, 1 ≤ x) (h2 : is.length ≤ 1000) (k : ∀ b : Bool, (b = true ↔ is.Pairwise FitI) → Q (.bl b) L) : rs H0 M spAllFit E [.ref q] L Q :=
  fun H z => ⟨q, is, rfl, z.get ia, h1, h2, fun b hb => z.p0 (k b hb)⟩
def spCheck : Sp := fun vs H Q _ => ∃ (e f : Int), vs = [.int e, .int f] ∧ 1 ≤ e ∧ 1 ≤ f ∧ FitI e f ∧ RetP H Q .non []
theorem rs_check {H0 : Hp} {M : Addr → Prop} {L : LL} {Q : V → LL → Prop} {e f : Int} {E : XK} (h1 : 1 ≤ e) (h2 : 1 ≤ f) (h3 : FitI e f) (k : Q .non L) : rs H0 M spCheck E [.int e, .int f] L Q := fun H z => ⟨e, f, rfl, h1, h2, h3, z.p0 k⟩

/-! ### sums, products of lines: promises -/
structure LOk (e t r : Int) : Prop where
  e1 : 0 < e
  t1 : 0 ≤ t
  t2 : t < e
  r1 : 0 ≤ r
abbrev sumO (c : Cs3) (dq : Addr) (e t r f u s : Int) : HO := lineO c.l dq (addE e f) (addT e t r f u) (addR e t r f u s)
abbrev prodO (c : Cs3) (dq : Addr) (e t r n : Int) : HO := lineO c.l dq e t (mulR e r n)
abbrev backO (c : Cs3) (dq : Addr) (e t r : Int) : HO := lineO c.l dq e (backT e t r) r
theorem LOk.sum {e t r f u s : Int} (a : LOk e t r) (b : LOk f u s) : LOk (addE e f) (addT e t r f u) (addR e t r f u s) :=
  let ⟨x, y, z, w⟩ := add_rng (t := t) (r := r) (u := u) (s := s) a.e1 b.e1 a.t1 a.t2 a.r1 b.r1; ⟨x, y, z, w⟩
theorem LOk.prod {e t r n : Int} (a : LOk e t r) (h : 1 ≤ n) : LOk e t (mulR e r n) := ⟨a.e1, a.t1, a.t2, mulR_rng a.e1 a.r1 h⟩
theorem LOk.back {e t r : Int} (a : LOk e t r) : LOk e (backT e t r) r := ⟨a.e1, (backT_rng a.e1).1, (backT_rng a.e1).2, a.r1⟩
def spAdd (c : Cs3) : Sp := fun vs H Q _ => ∃ a C dx e t r b D dy f u s, vs = [.ref a, .ref b] ∧ H a = some (lineO C dx e t r) ∧ H b = some (lineO D dy f u s) ∧ Ln c C ∧ Ln c D ∧ LOk e t r ∧ LOk f u s ∧ FitI e f ∧ ∀ q dq, H q = none → RetP H Q (.ref q) [(q, sumO c dq e t r f u s)]
def spMul (c : Cs3) : Sp := fun vs H Q _ => ∃ a C dx e t r n, vs = [.ref a, .int n] ∧ H a = some (lineO C dx e t r) ∧ Ln c C ∧ LOk e t r ∧ e < 2 ^ 1000 ∧ r < 2 ^ 1000 ∧ 1 ≤ n ∧ n ≤ 1000000000000000000000000000000 ∧ ∀ q dq, H q = none → RetP H Q (.ref q) [(q, prodO c dq e t r n)]
def spLater (c : Cs3) : Sp := fun vs H Q _ => ∃ a C dx e t r b D dy f u s, vs = [.ref a, .ref b] ∧ H a = some (lineO C dx e t r) ∧ H b = some (lineO D dy f u s) ∧ Ln c C ∧ Ln c D ∧ LOk e t r ∧ LOk f u s ∧ FitI e f ∧ RetP H Q (.bl (laterB e t r f u s)) []
def spBack (c : Cs3) : Sp := fun vs H Q _ => ∃ a C dx e t r, vs = [.ref a] ∧ H a = some (lineO C dx e t r) ∧ Ln c C ∧ LOk e t r ∧ ∀ q dq, H q = none → RetP H Q (.ref q) [(q, backO c dq e t r)]
section
variable {c : Cs3} {H0 : Hp} {M : Addr → Prop} {L : LL} {Q : V → LL → Prop} {a b C D dx dy : Addr} {e t r f u s n : Int} {E : XK}
theorem rs_add (ia : At L a (lineO C dx e t r)) (ib : At L b (lineO D dy f u s)) (hC : Ln c C) (hD : Ln c D) (o1 : LOk e t r) (o2 : LOk f u s) (ft : FitI e f) (k : ∀ q dq, H0 q = none → Q (.ref q) ((q, sumO c dq e t r f u s) :: L)) : rs H0 M (spAdd c) E [.ref a, .ref b] L Q :=
  fun H z => ⟨a, C, dx, e, t, r, b, D, dy, f, u, s, rfl, z.get ia, z.get ib, hC, hD, o1, o2, ft, fun q dq n => z.pp (k q dq (z.fresh n))⟩
theorem rs_mul (ia : At L a (lineO C dx e t r)) (hC : Ln c C) (o1 : LOk e t r) (h1 : e < 2 ^ 1000) (h2 : r < 2 ^ 1000) (h3 : 1 ≤ n) (h4 : n ≤ 1000000000000000000000000000000) (k : ∀ q dq, H0 q = none → Q (.ref q) ((q, prodO c dq e t r n) :: L)) : rs H0 M (spMul c) E [.ref a, .int n] L Q :=
  fun H z => ⟨a, C, dx, e, t, r, n, rfl, z.get ia, hC, o1, h1, h2, h3, h4, fun q dq n => z.pp (k q dq (z.fresh n))⟩
theorem rs_later (ia : At L a (lineO C dx e t r)) (ib : At L b (lineO D dy f u s)) (hC : Ln c C) (hD : Ln c D) (o1 : LOk e t r) (o2 : LOk f u s) (ft : FitI e f) (k : Q (.bl (laterB e t r f u s)) L) : rs H0 M (spLater c) E [.ref a, .ref b] L Q :=
  fun H z => ⟨a, C, dx, e, t, r, b, D, dy, f, u, s, rfl, z.get ia, z.get ib, hC, hD, o1, o2, ft, z.p0 k⟩
theorem rs_back (ia : At L a (lineO C dx e t r)) (hC : Ln c C) (o1 : LOk e t r) (k : ∀ q dq, H0 q = none → Q (.ref q) ((q, backO c dq e t r) :: L)) : rs H0 M (spBack c) E [.ref a] L Q :=
  fun H z => ⟨a, C, dx, e, t, r, rfl, z.get ia, hC, o1, fun q dq n => z.pp (k q dq (z.fresh n))⟩
end
theorem fit_refl (e : Int) : FitI e e := .inl (Int.dvd_refl e)
theorem fit_one (e : Int) : FitI 1 e := .inl (Int.one_dvd e)
theorem fit_one' (e : Int) : FitI e 1 := .inr (Int.one_dvd e)
/-- the receiver of an operator -/
theorem ro_sum {X : Cx} {P : Program} {w : World} {K : PySem.W.Frag} {mg : Str → Option Value} {base : Heap} {k j : Nat} {N Nv : List Str} {sc : Scope} {c : Cs3} {a b C D dx dy : Addr} {e t r f u s : Int} {H0 : Hp} {M : Addr → Prop} {L : LL} {Q : V → LL → Prop}
    (bd : Body X P w K mg base k N Nv sc) (O : OpT P w K mg base CX0 j (Ln c) "add" (spAdd c)) (hj : Nat.ble j k = true) (ia : At L a (lineO C dx e t r)) (ib : At L b (lineO D dy f u s)) (hC : Ln c C) (hD : Ln c D) (o1 : LOk e t r) (o2 : LOk f u s) (ft : FitI e f)
    (q : ∀ q dq, H0 q = none → Q (.ref q) ((q, sumO c dq e t r f u s) :: L)) : ro X H0 M (binaryOp .Add) (.ref a) (.ref b) L Q := bd.bin O hj rfl ia hC ib hD (rs_add ia ib hC hD o1 o2 ft q)
theorem ro_prod {X : Cx} {P : Program} {w : World} {K : PySem.W.Frag} {mg : Str → Option Value} {base : Heap} {k j : Nat} {N Nv : List Str} {sc : Scope} {c : Cs3} {a C dx : Addr} {e t r n : Int} {H0 : Hp} {M : Addr → Prop} {L : LL} {Q : V → LL → Prop}
    (bd : Body X P w K mg base k N Nv sc) (O : OpT P w K mg base CX0 j (Ln c) "mul" (spMul c)) (hj : Nat.ble j k = true) (ty : ∃ fo ro, PySem.W.findIn K (.type "int") (PySem.dunder "mul") = some fo ∧ PySem.W.findIn K (.type "int") (dunderR "mul") = some ro) (sb : ∀ C, Ln c C → PySem.W.subIn K (.type "int") (.ref C) = some false)
    (ia : At L a (lineO C dx e t r)) (hC : Ln c C) (o1 : LOk e t r) (h1 : e < 2 ^ 1000) (h2 : r < 2 ^ 1000) (h3 : 1 ≤ n) (h4 : n ≤ 1000000000000000000000000000000)
    (q : ∀ q dq, H0 q = none → Q (.ref q) ((q, prodO c dq e t r n) :: L)) : ro X H0 M (binaryOp .Mult) (.ref a) (.int n) L Q := bd.binI O hj rfl ty (sb C hC) ia hC (rs_mul ia hC o1 h1 h2 h3 h4 q)

/-! ### == of lines -/
def eqB (e t r f u s : Int) : Bool := decide (e = f) && (decide (t = u) && decide (r = s))
theorem eqB_comm (e t r f u s : Int) : eqB f u s e t r = eqB e t r f u s := by
  unfold eqB
  rw [show decide (f = e) = decide (e = f) from by rw [decide_eq_decide]; exact eq_comm, show decide (u = t) = decide (t = u) from by rw [decide_eq_decide]; exact eq_comm, show decide (s = r) = decide (r = s) from by rw [decide_eq_decide]; exact eq_comm]
theorem eqB_true {e t r f u s : Int} : eqB e t r f u s = true ↔ e = f ∧ t = u ∧ r = s := by
  unfold eqB
  simp only [Bool.and_eq_true, decide_eq_true_eq]
def spEqL (c : Cs3) : Sp := fun vs H Q _ => ∃ a C dx e t r b D dy f u s, vs = [.ref a, .ref b] ∧ H a = some (lineO C dx e t r) ∧ H b = some (lineO D dy f u s) ∧ Ln c C ∧ Ln c D ∧ RetP H Q (.bl (eqB e t r f u s)) []
section
variable {X : Cx} {P : Program} {w : World} {K : PySem.W.Frag} {mg : Str → Option Value} {base : Heap} {k j : Nat} {N Nv : List Str} {sc : Scope} {c : Cs3} {a b C D dx dy : Addr} {e t r f u s : Int} {H0 : Hp} {M : Addr → Prop} {L : LL} {Q : V → LL → Prop} {E : XK}
theorem rs_eqL (ia : At L a (lineO C dx e t r)) (ib : At L b (lineO D dy f u s)) (hC : Ln c C) (hD : Ln c D) (k : Q (.bl (eqB e t r f u s)) L) : rs H0 M (spEqL c) E [.ref a, .ref b] L Q :=
  fun H z => ⟨a, C, dx, e, t, r, b, D, dy, f, u, s, rfl, z.get ia, z.get ib, hC, hD, z.p0 k⟩
theorem ro_eqLn (bd : Body X P w K mg base k N Nv sc) (O : EqT P w K mg base CX0 j (Ln c) (spEqL c)) (hj : Nat.ble j k = true) (ia : At L a (lineO C dx e t r)) (ib : At L b (lineO D dy f u s)) (hC : Ln c C) (hD : Ln c D)
    (q : Q (.bl (eqB e t r f u s)) L) : ro X H0 M (compareOp .Eq) (.ref a) (.ref b) L Q := bd.eqI O hj ia hC ib hD (rs_eqL ia ib hC hD q) (rs_eqL ib ia hD hC (by rw [eqB_comm]; exact q))
theorem ro_neLn (bd : Body X P w K mg base k N Nv sc) (O : EqT P w K mg base CX0 j (Ln c) (spEqL c)) (hj : Nat.ble (j + 1) k = true) (ia : At L a (lineO C dx e t r)) (ib : At L b (lineO D dy f u s)) (hC : Ln c C) (hD : Ln c D)
    (q : Q (.bl (!eqB e t r f u s)) L) : ro X H0 M (compareOp .NotEq) (.ref a) (.ref b) L Q := bd.neI O hj ia hC ib hD (rs_eqL ia ib hC hD ⟨_, rfl, q⟩) (rs_eqL ib ia hD hC ⟨_, rfl, by rw [eqB_comm]; exact q⟩)
end

/-! ### the law's drawn numbers -/
abbrev feedO (a b c : Int) : HO := .lst [.int a, .int b, .int c]
def spFeed (K : PySem.W.Frag) : Sp := fun vs H Q _ => ∃ (s : Addr) (ns : List Int) (k : Int), vs = [.ref s, .int k] ∧ SqL K H s (ns.map V.int) ∧ 0 ≤ k ∧ ∀ q a b, H q = none → 0 ≤ a → RetP H Q (.ref q) [(q, feedO a b 0)]
def spPick : Sp := fun vs H Q _ => ∃ (f : Addr) (a b c n : Int), vs = [.ref f, .int n] ∧ H f = some (feedO a b c) ∧ 0 ≤ a ∧ 0 < n ∧ n.natAbs < 2 ^ 9000 ∧
  ∀ (r a' b' c' : Int), 0 ≤ r → r < n → 0 ≤ a' → RetC H Q (.int r) f (feedO a' b' c') []
theorem huge_bits {n : Int} (h0 : 0 < n) (h : n ≤ 1000000000000000000000000000000000000000000000000000000000000) : n.natAbs < 2 ^ 9000 := by
  have e : n.natAbs ≤ 1000000000000000000000000000000000000000000000000000000000000 := by omega
  have : (1000000000000000000000000000000000000000000000000000000000000 : Nat) < 2 ^ 200 := by decide +kernel
  have h2 : (2 : Nat) ^ 200 ≤ 2 ^ 9000 := Nat.pow_le_pow_right (by decide) (by decide)
  exact Nat.lt_of_lt_of_le (Nat.lt_of_le_of_lt e this) h2
section
variable {H0 : Hp} {M : Addr → Prop} {L : LL} {Q : V → LL → Prop} {f : Addr} {a b c n : Int} {E : XK} {g : HO → LL}
theorem rs_pick (s : Spot L f (feedO a b c) g) (cc : H0 f = none ∨ M f) (ha : 0 ≤ a) (h0 : 0 < n) (h1 : n ≤ 1000000000000000000000000000000000000000000000000000000000000) (q : ∀ r a' b' c', 0 ≤ r → r < n → 0 ≤ a' → Q (.int r) (g (feedO a' b' c'))) : rs H0 M spPick E [.ref f, .int n] L Q :=
  fun H z => ⟨f, a, b, c, n, rfl, z.at_ _ s.mem, ha, h0, huge_bits h0 h1, fun r a' b' c' h1 h2 h3 => z.c0 s cc (q r a' b' c' h1 h2 h3)⟩
theorem rs_feed {K : PySem.W.Frag} {s : Addr} {ns : List Int} {k : Int} (sq : SqL K H0 s (ns.map V.int)) (m : ¬ M s) (h0 : 0 ≤ k) (q : ∀ p a b, H0 p = none → 0 ≤ a → Q (.ref p) ((p, feedO a b 0) :: L)) : rs H0 M (spFeed K) E [.ref s, .int k] L Q :=
  fun H z => ⟨s, ns, k, rfl, z.seq sq m, h0, fun p a b n h => z.pp (q p a b (z.fresh n) h)⟩
end
/-- numbers of which each divides the next -/
structure ChainOk (top : Int) (is : List Int) : Prop where
  ne : is ≠ []
  rng : ∀ x ∈ is, 1 ≤ x ∧ x ≤ top
  dvd : is.Pairwise (· ∣ ·)
theorem ChainOk.one {top x : Int} (h : 1 ≤ x) (h2 : x ≤ top) : ChainOk top [x] := ⟨by simp, by simp; exact ⟨h, h2⟩, by simp⟩
theorem ChainOk.more {top x m : Int} {is : List Int} (h : ChainOk top (is ++ [x])) (hm : 1 ≤ m) (h2 : x * m ≤ top) : ChainOk top (is ++ [x] ++ [x * m]) := by
  have hx := h.rng x (by simp)
  refine ⟨by simp, fun y hy => ?_, ?_⟩
  · rcases List.mem_append.mp hy with z | z
    · exact h.rng y z
    · rw [List.mem_singleton.mp z]
      refine ⟨?_, h2⟩
      have := Int.mul_le_mul hx.1 hm (by omega) (by omega)
      omega
  · refine List.pairwise_append.mpr ⟨h.dvd, by simp, fun a ha b hb => ?_⟩
    rw [List.mem_singleton.mp hb]
    rcases List.mem_append.mp ha with z | z
    · exact Int.dvd_trans ((List.pairwise_append.mp h.dvd).2.2 a z x (by simp)) (Int.dvd_mul_right x m)
    · rw [List.mem_singleton.mp z]; exact Int.dvd_mul_right x m
abbrev topOf (g : Bool) : Int := if g then 100000000000000000000000000000000000000000000000000000000000 else 60
def spChain : Sp := fun vs H Q _ => ∃ (f : Addr) (a b c : Int) (g : Bool), vs = [.ref f, .bl g] ∧ H f = some (feedO a b c) ∧ 0 ≤ a ∧
  ∀ q a' b' c' is, H q = none → 0 ≤ a' → ChainOk (topOf g) is → is.length ≤ 7 → RetC H Q (.ref q) f (feedO a' b' c') [(q, .lst (is.map V.int))]
theorem rs_chain {H0 : Hp} {M : Addr → Prop} {L : LL} {Q : V → LL → Prop} {f : Addr} {a b c : Int} {E : XK} {g : HO → LL} {big : Bool} (s : Spot L f (feedO a b c) g) (cc : H0 f = none ∨ M f) (ha : 0 ≤ a)
    (q : ∀ p a' b' c' is, H0 p = none → 0 ≤ a' → ChainOk (topOf big) is → is.length ≤ 7 → Q (.ref p) ((p, .lst (is.map V.int)) :: g (feedO a' b' c'))) : rs H0 M spChain E [.ref f, .bl big] L Q :=
  fun H z => ⟨f, a, b, c, big, rfl, z.at_ _ s.mem, ha, fun p a' b' c' is n h1 h2 h3 => z.cc s cc (q p a' b' c' is (z.fresh n) h1 h2 h3)⟩
theorem top_ge (g : Bool) {x : Int} (h : x ≤ 60) : x ≤ topOf g := by
  cases g
  · exact h
  · show x ≤ 100000000000000000000000000000000000000000000000000000000000; omega
theorem top_le (g : Bool) {x : Int} (h : x ≤ topOf g) : x ≤ 100000000000000000000000000000000000000000000000000000000000 := by
  cases g
  · have : x ≤ 60 := h; omega
  · exact h
theorem bits {x : Int} {n : Nat} (c : Nat) (hc : Nat.ble c (2 ^ n - 1) = true) (h : -(c : Int) ≤ x ∧ x ≤ c) (hn : 0 < 2 ^ n := by exact Nat.pow_pos (by decide)) : x.natAbs < 2 ^ n := by
  have := Nat.le_of_ble_eq_true hc
  omega
/-- numbers of a line of a kind -/
structure NumOk (top : Int) (k : Kd) (e t r : Int) : Prop where
  e1 : 1 ≤ e
  e2 : e ≤ top
  t1 : 0 ≤ t
  t2 : t < e
  r1 : 0 ≤ r
  r2 : r ≤ 100000000000000000000000000000000000000000000000000000000000
  walk : k = .walk → e = 1 ∧ t = 0
  stop : k = .stop → r = 0
  r3 : r ≤ top
abbrev numO (k : Kd) (e t r : Int) : HO := .lst [.str (kdS k), .int e, .int t, .int r]
def spNumbers : Sp := fun vs H Q _ => ∃ (f ch : Addr) (a b c : Int) (is : List Int) (g : Bool), vs = [.ref f, .ref ch, .bl g] ∧ H f = some (feedO a b c) ∧ H ch = some (.lst (is.map V.int)) ∧ f ≠ ch ∧ 0 ≤ a ∧ ChainOk (topOf g) is ∧ is.length ≤ 7 ∧
  ∀ q a' b' c' k e t r, H q = none → 0 ≤ a' → NumOk (topOf g) k e t r → (e = 1 ∨ e ∈ is) → RetC H Q (.ref q) f (feedO a' b' c') [(q, numO k e t r)]
theorem rs_numbers {H0 : Hp} {M : Addr → Prop} {L : LL} {Q : V → LL → Prop} {f ch : Addr} {a b c : Int} {is : List Int} {E : XK} {g : HO → LL} {big : Bool} (s : Spot L f (feedO a b c) g) (ic : At L ch (.lst (is.map V.int))) (tw : Two L f ch) (cc : H0 f = none ∨ M f) (ha : 0 ≤ a) (ok : ChainOk (topOf big) is) (hl : is.length ≤ 7)
    (q : ∀ p a' b' c' k e t r, H0 p = none → 0 ≤ a' → NumOk (topOf big) k e t r → (e = 1 ∨ e ∈ is) → Q (.ref p) ((p, numO k e t r) :: g (feedO a' b' c'))) : rs H0 M spNumbers E [.ref f, .ref ch, .bl big] L Q :=
  fun H z => ⟨f, ch, a, b, c, is, big, rfl, z.at_ _ s.mem, z.get ic, tw.ne z.nd cc, ha, ok, hl, fun p a' b' c' k e t r n h1 h2 h3 => z.cc s cc (q p a' b' c' k e t r (z.fresh n) h1 h2 h3)⟩
theorem NumOk.lok {top : Int} {k : Kd} {e t r : Int} (h : NumOk top k e t r) : LOk e t r := ⟨by have := h.e1; omega, h.t1, h.t2, h.r1⟩
theorem pw_fit : ∀ {is : List Int}, is.Pairwise (· ∣ ·) → ∀ {e f : Int}, e ∈ is → f ∈ is → FitI e f
  | x :: r, h, e, f, he, hf => by
    obtain ⟨a, b⟩ := List.pairwise_cons.mp h
    rcases List.mem_cons.mp he with h1 | he
    · rcases List.mem_cons.mp hf with h2 | hf
      · rw [h1, h2]; exact fit_refl _
      · rw [h1]; exact .inl (a f hf)
    · rcases List.mem_cons.mp hf with h2 | hf
      · rw [h2]; exact .inr (a e he)
      · exact pw_fit b he hf
theorem ChainOk.fit {top : Int} {is : List Int} (h : ChainOk top is) {e f : Int} (he : e = 1 ∨ e ∈ is) (hf : f = 1 ∨ f ∈ is) : FitI e f := by
  rcases he with rfl | he
  · exact fit_one f
  · rcases hf with rfl | hf
    · exact fit_one' e
    · exact pw_fit h.dvd he hf
abbrev rideOf (g : Bool) : Int := if g then 10000000000000000000000000000000000000000 else 20
theorem rideOf_top (g : Bool) : rideOf g ≤ topOf g := by cases g <;> decide
theorem rideOf_rng (g : Bool) : 0 < rideOf g ∧ rideOf g ≤ 10000000000000000000000000000000000000000 := by cases g <;> decide
structure MkOk (k : Kd) (e t r : Int) : Prop where
  e1 : 1 ≤ e
  t1 : 0 ≤ t
  t2 : t < e
  r1 : 0 ≤ r
  walk : k = .walk → e = 1 ∧ t = 0
  stop : k = .stop → r = 0
theorem NumOk.mk' {top : Int} {k : Kd} {e t r : Int} (h : NumOk top k e t r) : MkOk k e t r := ⟨h.e1, h.t1, h.t2, h.r1, h.walk, h.stop⟩
theorem MkOk.lok {k : Kd} {e t r : Int} (h : MkOk k e t r) : LOk e t r := ⟨by have := h.e1; omega, h.t1, h.t2, h.r1⟩
def spMade (c : Cs3) : Sp := fun vs H Q _ => ∃ (n : Addr) (k : Kd) (e t r : Int), vs = [.ref n] ∧ H n = some (numO k e t r) ∧ MkOk k e t r ∧ ∀ q dq, H q = none → RetP H Q (.ref q) [(q, lineO (c.of k) dq e t r)]
theorem rs_madeK {c : Cs3} {H0 : Hp} {M : Addr → Prop} {L : LL} {Q : V → LL → Prop} {n : Addr} {k : Kd} {e t r : Int} {E : XK} (ia : At L n (numO k e t r)) (ok : MkOk k e t r) (q : ∀ p dp, H0 p = none → Q (.ref p) ((p, lineO (c.of k) dp e t r) :: L)) : rs H0 M (spMade c) E [.ref n] L Q :=
  fun H z => ⟨n, k, e, t, r, rfl, z.get ia, ok, fun p dp nn => z.pp (q p dp (z.fresh nn))⟩
theorem rs_made {c : Cs3} {H0 : Hp} {M : Addr → Prop} {L : LL} {Q : V → LL → Prop} {n : Addr} {top : Int} {k : Kd} {e t r : Int} {E : XK} (ia : At L n (numO k e t r)) (ok : NumOk top k e t r) (q : ∀ p dp, H0 p = none → Q (.ref p) ((p, lineO (c.of k) dp e t r) :: L)) : rs H0 M (spMade c) E [.ref n] L Q := rs_madeK ia ok.mk' q
def spMoment : Sp := fun vs H Q _ => ∃ (f : Addr) (a b c : Int) (g : Bool), vs = [.ref f, .bl g] ∧ H f = some (feedO a b c) ∧ 0 ≤ a ∧
  ∀ r a' b' c', 0 ≤ a' → -1000000000000000000000000000000000000000000000000000000000000 ≤ r → r ≤ 1000000000000000000000000000000000000000000000000000000000000 → RetC H Q (.int r) f (feedO a' b' c') []
theorem rs_moment {H0 : Hp} {M : Addr → Prop} {L : LL} {Q : V → LL → Prop} {f : Addr} {a b c : Int} {E : XK} {g : HO → LL} {big : Bool} (s : Spot L f (feedO a b c) g) (cc : H0 f = none ∨ M f) (ha : 0 ≤ a)
    (q : ∀ r a' b' c', 0 ≤ a' → -1000000000000000000000000000000000000000000000000000000000000 ≤ r → r ≤ 1000000000000000000000000000000000000000000000000000000000000 → Q (.int r) (g (feedO a' b' c'))) : rs H0 M spMoment E [.ref f, .bl big] L Q :=
  fun H z => ⟨f, a, b, c, big, rfl, z.at_ _ s.mem, ha, fun r a' b' c' h1 h2 h3 => z.c0 s cc (q r a' b' c' h1 h2 h3)⟩
theorem mul_bd {e d D : Int} (h0 : 0 ≤ e) (h1 : -D ≤ d) (h2 : d ≤ D) : -(e * D) ≤ e * d ∧ e * d ≤ e * D := by
  have a := Int.mul_le_mul_of_nonneg_left h2 h0
  have b := Int.mul_le_mul_of_nonneg_left h1 h0
  rw [Int.mul_neg] at b
  exact ⟨b, a⟩
abbrev Far (x : Int) : Prop := -10000000000000000000000000000000000000000000000000000000000000 ≤ x ∧ x ≤ 10000000000000000000000000000000000000000000000000000000000000
def spMoments : Sp := fun vs H Q _ => ∃ (f n : Addr) (a b c top : Int) (k : Kd) (e t r : Int), vs = [.ref f, .ref n] ∧ H f = some (feedO a b c) ∧ H n = some (numO k e t r) ∧ f ≠ n ∧ 0 ≤ a ∧ top ≤ 100000000000000000000000000000000000000000000000000000000000 ∧ NumOk top k e t r ∧
  ∀ (q : Addr) (a' b' c' : Int) (ms : List Int), H q = none → 0 ≤ a' → (∀ x ∈ ms, Far x) → ms.length = 6 → RetC H Q (.ref q) f (feedO a' b' c') [(q, .lst (ms.map V.int))]
theorem rs_moments {H0 : Hp} {M : Addr → Prop} {L : LL} {Q : V → LL → Prop} {f n : Addr} {a b c : Int} {k : Kd} {e t r : Int} {E : XK} {g : HO → LL} {big : Bool} (s : Spot L f (feedO a b c) g) (ia : At L n (numO k e t r)) (tw : Two L f n) (cc : H0 f = none ∨ M f) (ha : 0 ≤ a) (ok : NumOk (topOf big) k e t r)
    (q : ∀ (p : Addr) (a' b' c' : Int) (ms : List Int), H0 p = none → 0 ≤ a' → (∀ x ∈ ms, Far x) → ms.length = 6 → Q (.ref p) ((p, .lst (ms.map V.int)) :: g (feedO a' b' c'))) : rs H0 M spMoments E [.ref f, .ref n] L Q :=
  fun H z => ⟨f, n, a, b, c, topOf big, k, e, t, r, rfl, z.at_ _ s.mem, z.get ia, tw.ne z.nd cc, ha, top_le big (Int.le_refl _), ok, fun p a' b' c' ms nn h1 h2 h3 => z.cc s cc (q p a' b' c' ms (z.fresh nn) h1 h2 h3)⟩
def spRight : Sp := fun vs H Q _ => ∃ (f n : Addr) (a b c : Int) (g : Bool) (k : Kd) (e t r : Int), vs = [.ref f, .ref n] ∧ H f = some (feedO a b c) ∧ H n = some (numO k e t r) ∧ f ≠ n ∧ 0 ≤ a ∧ NumOk (topOf g) k e t r ∧
  ∀ a' b' c', 0 ≤ a' → RetC H Q (.bl true) f (feedO a' b' c') []
theorem rs_right {H0 : Hp} {M : Addr → Prop} {L : LL} {Q : V → LL → Prop} {f n : Addr} {a b c : Int} {k : Kd} {e t r : Int} {E : XK} {g : HO → LL} {big : Bool} (s : Spot L f (feedO a b c) g) (ia : At L n (numO k e t r)) (tw : Two L f n) (cc : H0 f = none ∨ M f) (ha : 0 ≤ a) (ok : NumOk (topOf big) k e t r)
    (q : ∀ (a' b' c' : Int), 0 ≤ a' → Q (.bl true) (g (feedO a' b' c'))) : rs H0 M spRight E [.ref f, .ref n] L Q :=
  fun H z => ⟨f, n, a, b, c, big, k, e, t, r, rfl, z.at_ _ s.mem, z.get ia, tw.ne z.nd cc, ha, ok, fun a' b' c' h => z.c0 s cc (q a' b' c' h)⟩
/-! ### rests -/
theorem emod_at {e y w x : Int} (hd : e ∣ y) (h0 : 0 ≤ w) (h1 : w < e) (hx : x = y + w) : x % e = w := by
  obtain ⟨z, rfl⟩ := hd
  rw [hx, Int.add_comm, Int.add_mul_emod_self_left, Int.emod_eq_of_lt h0 h1]
theorem dep_dvd (e t m : Int) : e ∣ (m + (t - m) % e - t) := ⟨-((t - m) / e), by have := Int.mul_ediv_add_emod (t - m) e; rw [Int.mul_neg]; omega⟩
theorem lat_dvd (e t x : Int) : e ∣ (x - (x - t) % e - t) := ⟨(x - t) / e, by have := Int.mul_ediv_add_emod (x - t) e; omega⟩
theorem dvd_flip {e x y : Int} (h : e ∣ (x - y)) : e ∣ (y - x) := by
  obtain ⟨z, hz⟩ := h
  exact ⟨-z, by rw [Int.mul_neg]; omega⟩
def spLaw (K : PySem.W.Frag) : Sp := fun vs H Q _ => ∃ (a : Addr) (ns : List Int), vs = [.ref a] ∧ SqL K H a (ns.map V.int) ∧ ns.length ≤ 63 ∧ ∀ H', Q (.bl true) H'
theorem eq_to {Q : VK} {b : Bool} {H : Hp} (e : b = true) (h : Q (.bl true) H) : Q (.bl b) H := by rw [e]; exact h

/-! ### helpers of the laws over lines -/
def spArrival : Sp := fun vs H Q _ => ∃ n k e t r p, vs = [.ref n, .int p] ∧ H n = some (numO k e t r) ∧ 0 < e ∧ RetP H Q (.int (arr e t r p)) []
theorem rs_arrival {H0 : Hp} {M : Addr → Prop} {L : LL} {Q : V → LL → Prop} {n : Addr} {k : Kd} {e t r p : Int} {E : XK} (ia : At L n (numO k e t r)) (h : 0 < e) (q : Q (.int (arr e t r p)) L) : rs H0 M spArrival E [.ref n, .int p] L Q :=
  fun H z => ⟨n, k, e, t, r, p, rfl, z.get ia, h, z.p0 q⟩
def spTriple (c : Cs3) : Sp := fun vs H Q _ => ∃ a C dx e t r, vs = [.ref a] ∧ H a = some (lineO C dx e t r) ∧ Ln c C ∧ ∀ q, H q = none → RetP H Q (.ref q) [(q, .tup [.int e, .int t, .int r])]
theorem rs_triple {c : Cs3} {H0 : Hp} {M : Addr → Prop} {L : LL} {Q : V → LL → Prop} {a C dx : Addr} {e t r : Int} {E : XK} (ia : At L a (lineO C dx e t r)) (hC : Ln c C) (k : ∀ q, H0 q = none → Q (.ref q) ((q, .tup [.int e, .int t, .int r]) :: L)) : rs H0 M (spTriple c) E [.ref a] L Q :=
  fun H z => ⟨a, C, dx, e, t, r, rfl, z.get ia, hC, fun q n => z.pp (k q (z.fresh n))⟩
def spRightN (c : Cs3) : Sp := fun vs H Q _ => ∃ (f n : Addr) (a b d : Int) (g : Bool) (k : Kd) (e t r : Int), vs = [.ref f, .ref n, .bl g] ∧ H f = some (feedO a b d) ∧ H n = some (numO k e t r) ∧ f ≠ n ∧ 0 ≤ a ∧ NumOk (topOf g) k e t r ∧
  ∀ a' b' c', 0 ≤ a' → RetC H Q (.bl true) f (feedO a' b' c') []
theorem rs_rightN {c : Cs3} {H0 : Hp} {M : Addr → Prop} {L : LL} {Q : V → LL → Prop} {f n : Addr} {a b d : Int} {k : Kd} {e t r : Int} {E : XK} {g : HO → LL} {big : Bool} (s : Spot L f (feedO a b d) g) (ia : At L n (numO k e t r)) (tw : Two L f n) (cc : H0 f = none ∨ M f) (ha : 0 ≤ a) (ok : NumOk (topOf big) k e t r)
    (q : ∀ (a' b' c' : Int), 0 ≤ a' → Q (.bl true) (g (feedO a' b' c'))) : rs H0 M (spRightN c) E [.ref f, .ref n, .bl big] L Q :=
  fun H z => ⟨f, n, a, b, d, big, k, e, t, r, rfl, z.at_ _ s.mem, z.get ia, tw.ne z.nd cc, ha, ok, fun a' b' c' h => z.c0 s cc (q a' b' c' h)⟩
def spWaited : Sp := fun vs H Q _ => ∃ n k e t r p, vs = [.ref n, .int p] ∧ H n = some (numO k e t r) ∧ 0 < e ∧ RetP H Q (.int (dep e t p)) []
theorem rs_waited {H0 : Hp} {M : Addr → Prop} {L : LL} {Q : V → LL → Prop} {n : Addr} {k : Kd} {e t r p : Int} {E : XK} (ia : At L n (numO k e t r)) (h : 0 < e) (q : Q (.int (dep e t p)) L) : rs H0 M spWaited E [.ref n, .int p] L Q :=
  fun H z => ⟨n, k, e, t, r, p, rfl, z.get ia, h, z.p0 q⟩

/-! ### routes: data and promises -/
structure Leg where
  a : Addr
  k : Kd
  d : Addr
  e : Int
  t : Int
  r : Int
abbrev Leg.v (x : Leg) : V := .ref x.a
abbrev Leg.o (c : Cs3) (x : Leg) : Addr × HO := (x.a, lineO (c.of x.k) x.d x.e x.t x.r)
abbrev Leg.n (x : Leg) : T3 := (x.e, x.t, x.r)
abbrev Rt (c : Cs3) : Addr → Prop := fun C => C = c.r
abbrev routeO (C dx T : Addr) : HO := .ins C dx [("_legs", .ref T)]
structure RtK (K : PySem.W.Frag) (C : Addr) : Prop where
  cls : Cls K C
  n : NoAttr K C "_legs"
theorem LOk.t3 {e t r : Int} (h : LOk e t r) : T3.ok (e, t, r) := ⟨h.e1, h.t1, h.t2, h.r1⟩
theorem t3_lok {x : T3} (h : x.ok) : LOk x.1 x.2.1 x.2.2 := ⟨h.e1, h.t1, h.t2, h.r1⟩
theorem putL (v : V) : putF "_legs" v [] = ([("_legs", v)] : List (Str × V)) := rfl
theorem lk_legs {v : V} : ([("_legs", v)] : List (Str × V)).lookup ("_legs" : Str) = some v := by rw [List.lookup_cons, beq_self_eq_true]
theorem lk_noR {m : Str} {v : V} (h1 : (m == ("_legs" : Str)) = false) : ([("_legs", v)] : List (Str × V)).lookup m = none := by rw [List.lookup_cons, h1]; rfl
theorem lf_ne {C C' d d' : Addr} {e t r : Int} : lineO C d e t r ≠ .ins C' d' [] := fun h => by injection h with _ _ h3; cases h3
section
variable {K : PySem.W.Frag} {c : Cs3} {L : LL} {a C dx T : Addr}
theorem fld_legs {B : V → Prop} (ia : At L a (routeO C dx T)) (hK : RtK K C) (q : B (.ref T)) : ∃ a' C' dx' fs v, V.ref a = .ref a' ∧ At L a' (.ins C' dx' fs) ∧ Cls K C' ∧ NoAttr K C' "_legs" ∧ fs.lookup ("_legs" : Str) = some v ∧ B v := ⟨a, C, dx, _, _, rfl, ia, hK.cls, hK.n, lk_legs, q⟩
theorem set_legs {H0 : Hp} {M : Addr → Prop} {nx : LL → Prop} {g : HO → LL} {v : V} (s : Spot L a (.ins C dx []) g) (c : H0 a = none ∨ M a) (hK : RtK K C) (q : nx (g (.ins C dx [("_legs", v)]))) : ∃ a' C' dx' fs g', V.ref a = .ref a' ∧ Spot L a' (.ins C' dx' fs) g' ∧ (H0 a' = none ∨ M a') ∧ Cls K C' ∧ NoAttr K C' "_legs" ∧ fs.length < 1000 ∧ nx (g' (.ins C' dx' (putF "_legs" v fs))) :=
  ⟨a, C, dx, _, g, rfl, s, c, hK.cls, hK.n, by decide, by rw [putL]; exact q⟩
theorem rrecv {m : Str} {B : Addr → Prop} (ia : At L a (routeO c.r dx T)) (h1 : (m == ("_legs" : Str)) = false) (q : B a) : ∃ a' C' dx' fs, V.ref a = .ref a' ∧ At L a' (.ins C' dx' fs) ∧ Rt c C' ∧ fs.lookup m = none ∧ B a' := ⟨a, c.r, dx, _, rfl, ia, rfl, lk_noR h1, q⟩
theorem rrecvP {B : Addr → Prop} (ia : At L a (routeO c.r dx T)) (q : B a) : ∃ a' C' dx' fs, V.ref a = .ref a' ∧ At L a' (.ins C' dx' fs) ∧ Rt c C' ∧ B a' := ⟨a, c.r, dx, _, rfl, ia, rfl, q⟩
theorem rrecvO (ia : At L a (routeO c.r dx T)) : ∃ C' dx' fs, At L a (.ins C' dx' fs) ∧ Rt c C' := ⟨c.r, dx, _, ia, rfl⟩
end
/-- a route in a heap -/
structure RtH (c : Cs3) (H : Hp) (a dx T : Addr) (ls : List Leg) : Prop where
  o : H a = some (routeO c.r dx T)
  t : H T = some (.tup (ls.map Leg.v))
  l : ∀ x ∈ ls, H x.a = some (x.o c).2
  ok : RtOk (ls.map Leg.n)
/-- .. among what is known -/
structure RtL (c : Cs3) (L : LL) (a dx T : Addr) (ls : List Leg) : Prop where
  o : At L a (routeO c.r dx T)
  t : At L T (.tup (ls.map Leg.v))
  l : Alls (Leg.o c) L ls
  ok : RtOk (ls.map Leg.n)
theorem RtL.get {c : Cs3} {H0 H : Hp} {M : Addr → Prop} {L : LL} {a dx T : Addr} {ls : List Leg} (h : RtL c L a dx T ls) (z : Hs H0 M L H) : RtH c H a dx T ls := ⟨z.get h.o, z.get h.t, h.l.get z, h.ok⟩
theorem RtH.any {c : Cs3} {H : Hp} {a dx T : Addr} {ls : List Leg} (h : RtH c H a dx T ls) : Hs H (fun _ => False) ((a, routeO c.r dx T) :: (T, .tup (ls.map Leg.v)) :: ls.map (Leg.o c)) H := .any (fun q hq => by
  rcases List.mem_cons.mp hq with e | hq
  · rw [e]; exact h.o
  rcases List.mem_cons.mp hq with e | hq
  · rw [e]; exact h.t
  · obtain ⟨x, hx, rfl⟩ := List.mem_map.mp hq
    exact h.l x hx)
theorem RtL.there {c : Cs3} {L : LL} {q : Addr × HO} {a dx T : Addr} {ls : List Leg} (h : RtL c L a dx T ls) : RtL c (q :: L) a dx T ls := ⟨.there h.o, .there h.t, h.l.there, h.ok⟩
theorem RtL.app_r {c : Cs3} {L L' : LL} {a dx T : Addr} {ls : List Leg} (h : RtL c L' a dx T ls) : RtL c (L ++ L') a dx T ls := ⟨.app_r h.o, .app_r h.t, h.l.app_r, h.ok⟩
theorem RtL.app_l {c : Cs3} {L L' : LL} {a dx T : Addr} {ls : List Leg} (h : RtL c L a dx T ls) : RtL c (L ++ L') a dx T ls := ⟨.app_l h.o, .app_l h.t, h.l.app_l, h.ok⟩
def spRInit (c : Cs3) : Sp := fun vs H Q _ => ∃ (a T dx : Addr) (ls : List Leg), vs = [.ref a, .ref T] ∧ H a = some (.ins c.r dx []) ∧ H T = some (.tup (ls.map Leg.v)) ∧ (∀ x ∈ ls, H x.a = some (x.o c).2) ∧ RtOk (ls.map Leg.n) ∧ RetC H Q .non a (routeO c.r dx T) []
/-- a route is made: v is it, beside it its tuple -/
abbrev MadeR (c : Cs3) (H : Hp) (Q : VK) (ls : List Leg) : Prop := ∀ q T dq, H q = none → H T = none → RetP H Q (.ref q) [(q, routeO c.r dq T), (T, .tup (ls.map Leg.v))]
abbrev GoR (c : Cs3) (H0 : Hp) (Q : V → LL → Prop) (L : LL) (ls : List Leg) : Prop := ∀ q T dq, H0 q = none → H0 T = none → Q (.ref q) ((q, routeO c.r dq T) :: (T, .tup (ls.map Leg.v)) :: L)
def spOf (c : Cs3) : Sp := fun vs H Q _ => ∃ (G : Addr) (ls : List Leg), vs = [.ref c.r, .ref G] ∧ H G = some (.lst (ls.map Leg.v)) ∧ (∀ x ∈ ls, H x.a = some (x.o c).2) ∧ RtOk (ls.map Leg.n) ∧ MadeR c H Q ls
def spLegs (c : Cs3) : Sp := fun vs H Q _ => ∃ (a dx T : Addr) (ls : List Leg), vs = [.ref a] ∧ RtH c H a dx T ls ∧ ∀ q, H q = none → RetP H Q (.ref q) [(q, .lst (ls.map Leg.v))]
def spRLen (c : Cs3) : Sp := fun vs H Q _ => ∃ (a dx T : Addr) (ls : List Leg), vs = [.ref a] ∧ RtH c H a dx T ls ∧ RetP H Q (.int ls.length) []
def spRCall (c : Cs3) (f : List T3 → Int → Int) : Sp := fun vs H Q _ => ∃ (a dx T : Addr) (ls : List Leg) (p : Int), vs = [.ref a, .int p] ∧ RtH c H a dx T ls ∧ RetP H Q (.int (f (ls.map Leg.n) p)) []
def spRAdd (c : Cs3) : Sp := fun vs H Q _ => ∃ (a dx T : Addr) (ls : List Leg) (b dy U : Addr) (ms : List Leg), vs = [.ref a, .ref b] ∧ RtH c H a dx T ls ∧ RtH c H b dy U ms ∧ RtOk (ls.map Leg.n ++ ms.map Leg.n) ∧ MadeR c H Q (ls ++ ms)
abbrev joinO (c : Cs3) (dq : Addr) (ns : List T3) : HO := lineO c.l dq (joinT ns).1 (joinT ns).2.1 (joinT ns).2.2
theorem joinO_snoc (c : Cs3) (d : Addr) (xs : List T3) (y : T3) : joinO c d (xs ++ [y]) = sumO c d (joinT xs).1 (joinT xs).2.1 (joinT xs).2.2 y.1 y.2.1 y.2.2 := by
  have e : joinT (xs ++ [y]) = jnT (joinT xs) y := joinF_app _ _ _
  show lineO c.l d (joinT (xs ++ [y])).1 (joinT (xs ++ [y])).2.1 (joinT (xs ++ [y])).2.2 = _
  rw [e]
def spRLine (c : Cs3) : Sp := fun vs H Q _ => ∃ (a dx T : Addr) (ls : List Leg), vs = [.ref a] ∧ RtH c H a dx T ls ∧ ∀ q dq, H q = none → RetP H Q (.ref q) [(q, joinO c dq (ls.map Leg.n))]
/-- the legs backward -/
abbrev RtBk (ls ms : List Leg) : Prop := F2 (fun x y => y.k = Kd.line ∧ y.n = backN x.n) ls.reverse ms
def spRBack (c : Cs3) : Sp := fun vs H Q _ => ∃ (a dx T : Addr) (ls : List Leg), vs = [.ref a] ∧ RtH c H a dx T ls ∧ ∀ q U dq ms, RtBk ls ms → H q = none → H U = none → RetP H Q (.ref q) ((q, routeO c.r dq U) :: (U, .tup (ms.map Leg.v)) :: ms.map (Leg.o c))
def spPart (c : Cs3) : Sp := fun vs H Q _ => ∃ (a dx T : Addr) (ls : List Leg) (i j : Nat), vs = [.ref a, .int i, .int j] ∧ RtH c H a dx T ls ∧ i ≤ j ∧ j < ls.length ∧ MadeR c H Q ((ls.take (j + 1)).drop i)
section
variable {c : Cs3} {H0 : Hp} {M : Addr → Prop} {L : LL} {Q : V → LL → Prop} {a G dx T b dy U : Addr} {ls ms : List Leg} {p : Int} {E : XK} {g : HO → LL}
theorem hs_goR {H : Hp} (z : Hs H0 M L H) (k : GoR c H0 Q L ls) : MadeR c H (up H0 M Q) ls := fun q T dq n1 n2 => z.pp (k q T dq (z.fresh n1) (z.fresh n2))
theorem rs_of {vs : List V} (ia : At L G (.lst vs)) (ev : vs = ls.map Leg.v) (al : Alls (Leg.o c) L ls) (ok : RtOk (ls.map Leg.n)) (k : GoR c H0 Q L ls) : rs H0 M (spOf c) E [.ref c.r, .ref G] L Q :=
  fun H z => ⟨G, ls, rfl, by rw [← ev]; exact z.get ia, al.get z, ok, hs_goR z k⟩
theorem rs_rinit {vs : List V} (s : Spot L a (.ins c.r dx []) g) (cc : H0 a = none ∨ M a) (ev : vs = ls.map Leg.v) (hl : vs.length ≤ 1000) (al : Alls (Leg.o c) L ls) (ok : RtOk (ls.map Leg.n)) (k : ∀ T, H0 T = none → Q .non ((T, .tup vs) :: g (routeO c.r dx T))) : rs H0 M (spStar 1 (spRInit c)) E (.ref a :: vs) L Q :=
  fun H z => ⟨[.ref a], vs, rfl, rfl, Nat.le_trans hl (by decide), fun p np => by
    have z2 : Hs H0 M ((p, .tup vs) :: L) (upd H p (.tup vs)) := z.new np
    exact ⟨a, p, dx, ls, rfl, z2.at_ _ (List.mem_cons_of_mem _ s.mem), by rw [← ev]; exact upd_same, fun x hx => z2.get (.there (al x hx)), ok, z2.c0 (.there s) cc (k p (z.fresh np))⟩⟩
theorem rs_legs (h : RtL c L a dx T ls) (k : ∀ q, H0 q = none → Q (.ref q) ((q, .lst (ls.map Leg.v)) :: L)) : rs H0 M (spLegs c) E [.ref a] L Q := fun H z => ⟨a, dx, T, ls, rfl, h.get z, fun q n => z.pp (k q (z.fresh n))⟩
theorem rs_rlen (h : RtL c L a dx T ls) (k : Q (.int ls.length) L) : rs H0 M (spRLen c) E [.ref a] L Q := fun H z => ⟨a, dx, T, ls, rfl, h.get z, z.p0 k⟩
theorem rs_rcall {f : List T3 → Int → Int} (h : RtL c L a dx T ls) (k : Q (.int (f (ls.map Leg.n) p)) L) : rs H0 M (spRCall c f) E [.ref a, .int p] L Q := fun H z => ⟨a, dx, T, ls, p, rfl, h.get z, z.p0 k⟩
theorem rs_radd (h : RtL c L a dx T ls) (h2 : RtL c L b dy U ms) (ok : RtOk (ls.map Leg.n ++ ms.map Leg.n)) (k : GoR c H0 Q L (ls ++ ms)) : rs H0 M (spRAdd c) E [.ref a, .ref b] L Q := fun H z => ⟨a, dx, T, ls, b, dy, U, ms, rfl, h.get z, h2.get z, ok, hs_goR z k⟩
theorem rs_rline (h : RtL c L a dx T ls) (k : ∀ q dq, H0 q = none → Q (.ref q) ((q, joinO c dq (ls.map Leg.n)) :: L)) : rs H0 M (spRLine c) E [.ref a] L Q := fun H z => ⟨a, dx, T, ls, rfl, h.get z, fun q dq n => z.pp (k q dq (z.fresh n))⟩
theorem rs_rback (h : RtL c L a dx T ls) (k : ∀ q U dq ms, RtBk ls ms → H0 q = none → H0 U = none → Q (.ref q) ((q, routeO c.r dq U) :: (U, .tup (ms.map Leg.v)) :: (ms.map (Leg.o c) ++ L))) : rs H0 M (spRBack c) E [.ref a] L Q :=
  fun H z => ⟨a, dx, T, ls, rfl, h.get z, fun q U dq ms hb n1 n2 => z.pp (k q U dq ms hb (z.fresh n1) (z.fresh n2))⟩
theorem rs_rback' (h : RtL c L a dx T ls) (k : ∀ q U dq ms, RtBk ls ms → H0 q = none → H0 U = none → (∀ x ∈ ms, H0 x.a = none) → Q (.ref q) ((q, routeO c.r dq U) :: (U, .tup (ms.map Leg.v)) :: (ms.map (Leg.o c) ++ L))) : rs H0 M (spRBack c) E [.ref a] L Q :=
  fun H z => ⟨a, dx, T, ls, rfl, h.get z, fun q U dq ms hb n1 n2 H' e n => (z.pp (k q U dq ms hb (z.fresh n1) (z.fresh n2) fun x hx => z.fresh (n.new (x.o c) (List.mem_cons_of_mem _ (List.mem_cons_of_mem _ (List.mem_map.mpr ⟨x, hx, rfl⟩))))) H' e n)⟩
theorem RtBk.n {ls ms : List Leg} (h : RtBk ls ms) : ms.map Leg.n = (ls.map Leg.n).reverse.map backN := by
  rw [← List.map_reverse, List.map_map]
  exact (F2.map (f := backN ∘ Leg.n) (g := Leg.n) h fun x y e => e.2.symm).symm
theorem RtBk.ok {ls ms : List Leg} (h : RtBk ls ms) (ok : RtOk (ls.map Leg.n)) : RtOk (ms.map Leg.n) := by
  rw [h.n]
  exact ⟨backs_ok ok.ok, backs_fit ok.fit, by rw [List.length_map, List.length_reverse]; exact ok.n1, by rw [List.length_map, List.length_reverse]; exact ok.n2⟩
theorem RtBk.len {ls ms : List Leg} (h : RtBk ls ms) : ms.length = ls.length := by have := F2.len h; rw [List.length_reverse] at this; exact this.symm
theorem rs_part {i j : Nat} (h : RtL c L a dx T ls) (h1 : i ≤ j) (h2 : j < ls.length) (k : GoR c H0 Q L ((ls.take (j + 1)).drop i)) : rs H0 M (spPart c) E [.ref a, .int i, .int j] L Q := fun H z => ⟨a, dx, T, ls, i, j, rfl, h.get z, h1, h2, hs_goR z k⟩
end

/-! ### the law's legs -/
structure Row where
  a : Addr
  k : Kd
  e : Int
  t : Int
  r : Int
abbrev Row.v (x : Row) : V := .ref x.a
abbrev Row.o (x : Row) : Addr × HO := (x.a, numO x.k x.e x.t x.r)
abbrev Row.n (x : Row) : T3 := (x.e, x.t, x.r)
abbrev Row.mk' (x : Row) : Prop := MkOk x.k x.e x.t x.r
/-- drawn from one chain -/
structure RowsOk (g : Bool) (is : List Int) (rs : List Row) : Prop where
  ok : ∀ x ∈ rs, NumOk (topOf g) x.k x.e x.t x.r
  mem : ∀ x ∈ rs, x.e = 1 ∨ x.e ∈ is
  n1 : 1 ≤ rs.length
  n2 : rs.length ≤ 60
theorem RowsOk.rt {g : Bool} {is : List Int} {rs : List Row} (h : RowsOk g is rs) (c : ChainOk (topOf g) is) : RtOk (rs.map Row.n) := by
  refine ⟨fun x hx => ?_, ?_, by rw [List.length_map]; exact h.n1, by rw [List.length_map]; exact h.n2⟩
  · obtain ⟨y, hy, rfl⟩ := List.mem_map.mp hx
    exact (h.ok y hy).lok.t3
  · refine List.pairwise_of_forall_mem_list fun x hx y hy => ?_
    obtain ⟨u, hu, rfl⟩ := List.mem_map.mp hx
    obtain ⟨v, hv, rfl⟩ := List.mem_map.mp hy
    exact c.fit (h.mem u hu) (h.mem v hv)
def spLegsL : Sp := fun vs H Q _ => ∃ (f ch : Addr) (a b d most : Int) (is : List Int) (g : Bool), vs = [.ref f, .ref ch, .int most, .bl g] ∧ H f = some (feedO a b d) ∧ H ch = some (.lst (is.map V.int)) ∧ f ≠ ch ∧ 0 ≤ a ∧ ChainOk (topOf g) is ∧ is.length ≤ 7 ∧ 1 ≤ most ∧ most ≤ 60 ∧
  ∀ R a' b' d' (rs : List Row), H R = none → 0 ≤ a' → RowsOk g is rs → (rs.length : Int) ≤ most → RetC H Q (.ref R) f (feedO a' b' d') ((R, .lst (rs.map Row.v)) :: rs.map Row.o)
theorem rs_legsL {H0 : Hp} {M : Addr → Prop} {L : LL} {Q : V → LL → Prop} {f ch : Addr} {a b d most : Int} {is : List Int} {E : XK} {gl : HO → LL} {g : Bool} (s : Spot L f (feedO a b d) gl) (ic : At L ch (.lst (is.map V.int))) (tw : Two L f ch) (cc : H0 f = none ∨ M f) (ha : 0 ≤ a) (ok : ChainOk (topOf g) is) (hl : is.length ≤ 7) (h1 : 1 ≤ most) (h2 : most ≤ 60)
    (q : ∀ R a' b' d' (rs : List Row), H0 R = none → 0 ≤ a' → RowsOk g is rs → (rs.length : Int) ≤ most → Q (.ref R) ((R, .lst (rs.map Row.v)) :: (rs.map Row.o ++ gl (feedO a' b' d')))) : rs H0 M spLegsL E [.ref f, .ref ch, .int most, .bl g] L Q :=
  fun H z => ⟨f, ch, a, b, d, most, is, g, rfl, z.at_ _ s.mem, z.get ic, tw.ne z.nd cc, ha, ok, hl, h1, h2, fun R a' b' d' rs n k1 k2 k3 => z.cc s cc (q R a' b' d' rs (z.fresh n) k1 k2 k3)⟩
/-- the end of the legs, leg by leg -/
def spEnd : Sp := fun vs H Q _ => ∃ (R : Addr) (rs : List Row) (p : Int), vs = [.ref R, .int p] ∧ H R = some (.lst (rs.map Row.v)) ∧ (∀ x ∈ rs, H x.a = some x.o.2) ∧ (∀ x ∈ rs, 0 < x.e) ∧ RetP H Q (.int (endT (rs.map Row.n) p)) []
theorem rs_end {H0 : Hp} {M : Addr → Prop} {L : LL} {Q : V → LL → Prop} {R : Addr} {vs : List V} {rs' : List Row} {p : Int} {E : XK} (ia : At L R (.lst vs)) (ev : vs = rs'.map Row.v) (al : Alls Row.o L rs') (h : ∀ x ∈ rs', 0 < x.e) (q : Q (.int (endT (rs'.map Row.n) p)) L) : rs H0 M spEnd E [.ref R, .int p] L Q :=
  fun H z => ⟨R, rs', p, rfl, by rw [← ev]; exact z.get ia, al.get z, h, z.p0 q⟩
theorem feed_ne_num {H : Hp} {f : Addr} {a b d : Int} {x : Row} (hf : H f = some (feedO a b d)) (hx : H x.a = some x.o.2) : x.a ≠ f := fun e => by
  rw [e, hf] at hx
  cases hx
theorem feed_ne_rows {H : Hp} {f R : Addr} {a b d : Int} {rs : List Row} (hf : H f = some (feedO a b d)) (hR : H R = some (.lst (rs.map Row.v))) : R ≠ f := fun e => by
  rw [e, hf] at hR
  cases rs with
  | nil => cases hR
  | cons x r => cases hR
/-- the entry of a def over legs -/
theorem rows_entry {H : Hp} {f R : Addr} {a b d : Int} {rs : List Row} (hf : H f = some (feedO a b d)) (hR : H R = some (.lst (rs.map Row.v))) (hl : ∀ x ∈ rs, H x.a = some x.o.2) : Hs H (fun x => x = f) ((f, feedO a b d) :: (R, .lst (rs.map Row.v)) :: rs.map Row.o) H :=
  .anyM hf (fun q hq => by
    rcases List.mem_cons.mp hq with e | hq
    · rw [e]; exact hR
    · obtain ⟨x, hx, rfl⟩ := List.mem_map.mp hq; exact hl x hx) (fun q hq => by
    rcases List.mem_cons.mp hq with e | hq
    · rw [e]; exact feed_ne_rows hf hR
    · obtain ⟨x, hx, rfl⟩ := List.mem_map.mp hq; exact feed_ne_num hf (hl x hx))
/-- a leg made of a row -/
abbrev Mde (x : Row) (y : Leg) : Prop := y.k = x.k ∧ y.n = x.n
theorem mde_n {rs : List Row} {ls : List Leg} (h : F2 Mde rs ls) : ls.map Leg.n = rs.map Row.n := (h.map fun _ _ e => e.2.symm).symm
theorem mde_k {rs : List Row} {ls : List Leg} (h : F2 Mde rs ls) : ls.map Leg.k = rs.map Row.k := (h.map fun _ _ e => e.1.symm).symm
/-- the judgement of a law over legs -/
def spRightR : Sp := fun vs H Q _ => ∃ (f R : Addr) (a b d : Int) (is : List Int) (g : Bool) (rs : List Row), vs = [.ref f, .ref R, .bl g] ∧ H f = some (feedO a b d) ∧ H R = some (.lst (rs.map Row.v)) ∧ (∀ x ∈ rs, H x.a = some x.o.2) ∧ 0 ≤ a ∧ ChainOk (topOf g) is ∧ RowsOk g is rs ∧
  ∀ a' b' d', 0 ≤ a' → RetC H Q (.bl true) f (feedO a' b' d') []
theorem rs_rightR {H0 : Hp} {M : Addr → Prop} {L : LL} {Q : V → LL → Prop} {f R : Addr} {a b d : Int} {is : List Int} {rs' : List Row} {E : XK} {gl : HO → LL} {g : Bool} (s : Spot L f (feedO a b d) gl) (iR : At L R (.lst (rs'.map Row.v))) (al : Alls Row.o L rs') (cc : H0 f = none ∨ M f) (ha : 0 ≤ a) (ok : ChainOk (topOf g) is) (hr : RowsOk g is rs')
    (q : ∀ a' b' d', 0 ≤ a' → Q (.bl true) (gl (feedO a' b' d'))) : rs H0 M spRightR E [.ref f, .ref R, .bl g] L Q :=
  fun H z => ⟨f, R, a, b, d, is, g, rs', rfl, z.at_ _ s.mem, z.get iR, al.get z, ha, ok, hr, fun a' b' d' h => z.c0 s cc (q a' b' d' h)⟩
theorem gn_kd {L : LL} (k : Kd) : Gn L (.str (kdS k)) (.str (kdS k)) := .fl (.str (by cases k <;> decide +kernel))
theorem gns_kd {L : LL} {α : Type} (f : α → Kd) (ms : List α) : Gns L (ms.map fun x => V.str (kdS (f x))) (ms.map fun x => PyData.str (kdS (f x))) := gns_map fun x _ => gn_kd (f x)
theorem atI0 {α : Type} {x : α} {xs : List α} : atI (x :: xs) 0 = some x := by
  unfold atI ixN
  rw [if_pos (by decide), if_pos (by rw [List.length_cons]; omega)]
  rfl
theorem rs_rcallV {c : Cs3} {H0 : Hp} {M : Addr → Prop} {L : LL} {Q : V → LL → Prop} {a dx T : Addr} {ls : List Leg} {p v : Int} {E : XK} {f : List T3 → Int → Int} (h : RtL c L a dx T ls) (e : f (ls.map Leg.n) p = v) (k : Q (.int v) L) : rs H0 M (spRCall c f) E [.ref a, .int p] L Q := rs_rcall h (by rw [e]; exact k)
theorem lift_sub {L1 L : LL} (s : Sub L1 L) : Lift L1 L := fun _ _ h => At.sub s h
/-- the route of rows -/
def spWay (c : Cs3) : Sp := fun vs H Q _ => ∃ (R : Addr) (rs : List Row), vs = [.ref R] ∧ H R = some (.lst (rs.map Row.v)) ∧ (∀ x ∈ rs, H x.a = some x.o.2) ∧ (∀ x ∈ rs, x.mk') ∧ RtOk (rs.map Row.n) ∧
  ∀ q T dq ls, F2 Mde rs ls → H q = none → H T = none → RetP H Q (.ref q) ((q, routeO c.r dq T) :: (T, .tup (ls.map Leg.v)) :: ls.map (Leg.o c))
theorem rs_way {c : Cs3} {H0 : Hp} {M : Addr → Prop} {L : LL} {Q : V → LL → Prop} {R : Addr} {vs : List V} {rs' : List Row} {E : XK} (iR : At L R (.lst vs)) (ev : vs = rs'.map Row.v) (al : Alls Row.o L rs') (mk : ∀ x ∈ rs', x.mk') (ok : RtOk (rs'.map Row.n))
    (q : ∀ q T dq ls, F2 Mde rs' ls → H0 q = none → H0 T = none → Q (.ref q) ((q, routeO c.r dq T) :: (T, .tup (ls.map Leg.v)) :: (ls.map (Leg.o c) ++ L))) : rs H0 M (spWay c) E [.ref R] L Q :=
  fun H z => ⟨R, rs', rfl, by rw [← ev]; exact z.get iR, al.get z, mk, ok, fun w T dw ls f n1 n2 => z.pp (q w T dw ls f (z.fresh n1) (z.fresh n2))⟩
theorem RowsOk.mks {g : Bool} {is : List Int} {rs : List Row} (h : RowsOk g is rs) : ∀ x ∈ rs, x.mk' := fun x hx => (h.ok x hx).mk'
theorem mde_rtl {c : Cs3} {L : LL} {q T dq : Addr} {rs : List Row} {ls : List Leg} (f : F2 Mde rs ls) (ok : RtOk (rs.map Row.n)) : RtL c ((q, routeO c.r dq T) :: (T, .tup (ls.map Leg.v)) :: (ls.map (Leg.o c) ++ L)) q dq T ls := ⟨.here, .there .here, .there (.there (.app_l .self)), by rw [mde_n f]; exact ok⟩

/-- Walk.__init__, Stop.__init__, which call that of Line -/
structure MakW (P : Program) (K : PySem.W.Frag) (mg : Str → Option Value) (c : Cs3) : Prop where
  ok : ∀ {w : World} {base : Heap}, (∀ f fd, Fun K "__init__" "Line.__init__" s_Line_init f fd → Fk P w K mg base CX0 2 f fd ["self", "every", "at", "ride"] (spInit c)) → MakeT P w K mg base CX0 3 "Walk" c.w (spWalk c)
structure MakS (P : Program) (K : PySem.W.Frag) (mg : Str → Option Value) (c : Cs3) : Prop where
  ok : ∀ {w : World} {base : Heap}, (∀ f fd, Fun K "__init__" "Line.__init__" s_Line_init f fd → Fk P w K mg base CX0 2 f fd ["self", "every", "at", "ride"] (spInit c)) → MakeT P w K mg base CX0 3 "Stop" c.s (spStop c)

structure Tx (P : Program) (K : PySem.W.Frag) (mg : Str → Option Value) (c : Cs3) : Prop where
  is_integer : FunM K mg "is_integer" s_is_integer
  all_fit : FunM K mg "all_fit" s_all_fit
  written : FunM K mg "written" s_written
  is_below : FunM K mg "is_below" s_is_below
  check_fitting : FunM K mg "check_fitting" s_check_fitting
  Line_init : FunI K mg "Line" c.l "Line.__init__" s_Line_init
  Line_every : FunP K (Ln c) "every" "Line.every" s_Line_every
  Line_at : FunP K (Ln c) "at" "Line.at" s_Line_at
  Line_ride : FunP K (Ln c) "ride" "Line.ride" s_Line_ride
  Line_call : FunO K (Ln c) "Line.__call__" s_Line_call
  Line_departure : FunC K (Ln c) "departure" "Line.departure" s_Line_departure
  Line_add : FunF K (Ln c) "add" "__add__" "Line.__add__" s_Line_add
  Line_mul : FunF K (Ln c) "mul" "__mul__" "Line.__mul__" s_Line_mul
  Line_eq : FunE K (Ln c) "__eq__" "Line.__eq__" s_Line_eq
  Line_text : FunC K (Is1 c.l) "text" "Line.text" s_Line_text
  Walk_text : FunC K (Is1 c.w) "text" "Walk.text" s_Walk_text
  Stop_text : FunC K (Is1 c.s) "text" "Stop.text" s_Stop_text
  Route_init : FunI K mg "Route" c.r "Route.__init__" s_Route_init
  Route_of : FunCM K c.r "of" "Route.of" s_Route_of
  Route_legs : FunP K (Rt c) "legs" "Route.legs" s_Route_legs
  Route_len : FunN K (Rt c) "Route.__len__" s_Route_len
  Route_call : FunO K (Rt c) "Route.__call__" s_Route_call
  Route_add : FunF K (Rt c) "add" "__add__" "Route.__add__" s_Route_add
  Route_line : FunC K (Rt c) "line" "Route.line" s_Route_line
  check_leg : FunM K mg "check_leg" s_check_leg
  line_of : FunM K mg "line_of" s_line_of
  sides : FunM K mg "sides" s_sides
  least_waits : FunM K mg "least_waits" s_least_waits
  best_block : FunM K mg "best_block" s_best_block
  best_ride : FunM K mg "best_ride" s_best_ride
  count_best : FunM K mg "count_best" s_count_best
  is_best : FunM K mg "is_best" s_is_best
  nth_best : FunM K mg "nth_best" s_nth_best
  tape : FunM K mg "_law_tape" s_tape
  next : FunM K mg "_law_next" s_next
  chain : FunM K mg "_law_chain" s_chain
  rows : FunM K mg "_law_rows" s_rows
  line : FunM K mg "_law_line" s_line
  route : FunM K mg "_law_route" s_route
  class_ : FunM K mg "_law_class" s_class_
  asked : FunM K mg "_law_asked" s_asked
  right : FunM K mg "_law_right" s_right
  law : FunM K mg "law" s_law
  ln : ∀ C, Ln c C → LnK K C
  con : ∀ k, ∃ u, Con K (c.of k) "KIND" (.str (kdS k)) u
  gl : mg "Line" = some (.ref c.l)
  gw : mg "Walk" = some (.ref c.w)
  gs : mg "Stop" = some (.ref c.s)
  isk : ∀ C, Ln c C → IsK K C
  is0 : Is0 K
  kl : ∀ C, Ln c C → PySem.W.kitOne K (.ref C) (.ref c.l) = some true
  kw : ∀ k, PySem.W.kitOne K (.ref (c.of k)) (.ref c.w) = some (decide (k = .walk))
  ks : ∀ k, PySem.W.kitOne K (.ref (c.of k)) (.ref c.s) = some (decide (k = .stop))
  int : ∀ C, Ln c C → PySem.W.subIn K (.type "int") (.ref C) = some false
  most : ∃ t, mg "MOST_ROUNDS" = some (.int 1000000000000000000000000000000 t)
  block : ∃ t, mg "BLOCK" = some (.int 1000000000000000000000000000000000000000000000000000000000000 t)
  imul : ∃ fo ro, PySem.W.findIn K (.type "int") (PySem.dunder "mul") = some fo ∧ PySem.W.findIn K (.type "int") (dunderR "mul") = some ro
  rt : RtK K c.r
  gr : mg "Route" = some (.ref c.r)
  mostL : ∃ t, mg "MOST_LEGS" = some (.int 60 t)
  isr : IsK K c.r
  krr : PySem.W.kitOne K (.ref c.r) (.ref c.r) = some true
  kln : ∀ C, Ln c C → PySem.W.kitOne K (.ref C) (.type "int") = some false
  kri : PySem.W.kitOne K (.ref c.r) (.type "int") = some false
  xHeadwayError : ClsM K mg "HeadwayError" c.x.HeadwayError
  xInvalidLine : ClsM K mg "InvalidLine" c.x.InvalidLine
  xInvalidRoute : ClsM K mg "InvalidRoute" c.x.InvalidRoute
  xInvalidWishes : ClsM K mg "InvalidWishes" c.x.InvalidWishes
  xInvalidFixed : ClsM K mg "InvalidFixed" c.x.InvalidFixed
  xInvalidNumber : ClsM K mg "InvalidNumber" c.x.InvalidNumber
  xInvalidIndex : ClsM K mg "InvalidIndex" c.x.InvalidIndex
  xNotFitting : ClsM K mg "NotFitting" c.x.NotFitting
  xNothingToUndo : ClsM K mg "NothingToUndo" c.x.NothingToUndo
  xNotPossible : ClsM K mg "NotPossible" c.x.NotPossible
  xInvalidText : ClsM K mg "InvalidText" c.x.InvalidText
  rInvalidIndex : RaiC K c.x.InvalidIndex
  eInvalidIndex : ExcC K c.x.InvalidIndex
  mInvalidIndex : PySem.W.exmOne K (.ref c.x.InvalidIndex) (.ref c.x.HeadwayError) = some true
  vInvalidIndex : PySem.W.kitOne K (.ref c.x.InvalidIndex) (.type "ValueError") = some true
  kInvalidIndex_HeadwayError : PySem.W.kitOne K (.ref c.x.InvalidIndex) (.ref c.x.HeadwayError) = some true
  kInvalidIndex_InvalidLine : PySem.W.kitOne K (.ref c.x.InvalidIndex) (.ref c.x.InvalidLine) = some false
  kInvalidIndex_InvalidRoute : PySem.W.kitOne K (.ref c.x.InvalidIndex) (.ref c.x.InvalidRoute) = some false
  kInvalidIndex_InvalidWishes : PySem.W.kitOne K (.ref c.x.InvalidIndex) (.ref c.x.InvalidWishes) = some false
  kInvalidIndex_InvalidFixed : PySem.W.kitOne K (.ref c.x.InvalidIndex) (.ref c.x.InvalidFixed) = some false
  kInvalidIndex_InvalidNumber : PySem.W.kitOne K (.ref c.x.InvalidIndex) (.ref c.x.InvalidNumber) = some false
  kInvalidIndex_InvalidIndex : PySem.W.kitOne K (.ref c.x.InvalidIndex) (.ref c.x.InvalidIndex) = some true
  kInvalidIndex_NotFitting : PySem.W.kitOne K (.ref c.x.InvalidIndex) (.ref c.x.NotFitting) = some false
  kInvalidIndex_NothingToUndo : PySem.W.kitOne K (.ref c.x.InvalidIndex) (.ref c.x.NothingToUndo) = some false
  kInvalidIndex_NotPossible : PySem.W.kitOne K (.ref c.x.InvalidIndex) (.ref c.x.NotPossible) = some false
  kInvalidIndex_InvalidText : PySem.W.kitOne K (.ref c.x.InvalidIndex) (.ref c.x.InvalidText) = some false
  rInvalidNumber : RaiC K c.x.InvalidNumber
  eInvalidNumber : ExcC K c.x.InvalidNumber
  mInvalidNumber : PySem.W.exmOne K (.ref c.x.InvalidNumber) (.ref c.x.HeadwayError) = some true
  vInvalidNumber : PySem.W.kitOne K (.ref c.x.InvalidNumber) (.type "ValueError") = some true
  kInvalidNumber_HeadwayError : PySem.W.kitOne K (.ref c.x.InvalidNumber) (.ref c.x.HeadwayError) = some true
  kInvalidNumber_InvalidLine : PySem.W.kitOne K (.ref c.x.InvalidNumber) (.ref c.x.InvalidLine) = some false
  kInvalidNumber_InvalidRoute : PySem.W.kitOne K (.ref c.x.InvalidNumber) (.ref c.x.InvalidRoute) = some false
  kInvalidNumber_InvalidWishes : PySem.W.kitOne K (.ref c.x.InvalidNumber) (.ref c.x.InvalidWishes) = some false
  kInvalidNumber_InvalidFixed : PySem.W.kitOne K (.ref c.x.InvalidNumber) (.ref c.x.InvalidFixed) = some false
  kInvalidNumber_InvalidNumber : PySem.W.kitOne K (.ref c.x.InvalidNumber) (.ref c.x.InvalidNumber) = some true
  kInvalidNumber_InvalidIndex : PySem.W.kitOne K (.ref c.x.InvalidNumber) (.ref c.x.InvalidIndex) = some false
  kInvalidNumber_NotFitting : PySem.W.kitOne K (.ref c.x.InvalidNumber) (.ref c.x.NotFitting) = some false
  kInvalidNumber_NothingToUndo : PySem.W.kitOne K (.ref c.x.InvalidNumber) (.ref c.x.NothingToUndo) = some false
  kInvalidNumber_NotPossible : PySem.W.kitOne K (.ref c.x.InvalidNumber) (.ref c.x.NotPossible) = some false
  kInvalidNumber_InvalidText : PySem.W.kitOne K (.ref c.x.InvalidNumber) (.ref c.x.InvalidText) = some false
  walk : MakW P K mg c
  stop : MakS P K mg c
  blt : Blt mg

local macro_rules | `(tactic| fail "at") => `(tactic| first | assumption | (with_reducible exact Xi.At.here) | ((with_reducible apply Xi.At.there); fail "at") | ((with_reducible refine Xi.At.lift (by with_reducible assumption) ?_); fail "at"))
local macro_rules | `(tactic| fail "ats") => `(tactic| first | assumption | exact Xi.Alls.self | ((with_reducible apply Xi.Alls.there); fail "ats"))
local macro_rules | `(tactic| fail "rtl") => `(tactic| first | assumption | ((with_reducible apply RtL.there); fail "rtl"))
local macro_rules | `(tactic| fail "cat") => `(tactic| repeat rw [List.cons_append])
local macro_rules | `(tactic| fail "spot") => `(tactic| first | (with_reducible exact Xi.Spot.here) | ((with_reducible apply Xi.Spot.there); fail "spot"))
local macro_rules | `(tactic| fail "aq") => `(tactic| first | (with_reducible refine aq_here ?_) | ((with_reducible refine aq_there ?_); fail "aq"))
local macro_rules | `(tactic| fail "sq") => `(tactic| first | (with_reducible refine sq_here ?_) | ((with_reducible refine sq_there ?_); fail "sq"))
local macro_rules | `(tactic| fail "lk") => `(tactic| first | (with_reducible refine lq_here ?_) | ((with_reducible refine lq_there ?_); fail "lk"))
local macro_rules | `(tactic| fail "pt") => `(tactic| first | (with_reducible refine pq_here ?_) | ((with_reducible refine pq_there ?_); fail "pt"))
local macro_rules | `(tactic| fail "mem") => `(tactic| first | (with_reducible exact List.mem_cons_self) | ((with_reducible refine List.mem_cons_of_mem _ ?_); fail "mem"))
local macro_rules | `(tactic| fail "sub") => `(tactic| first | exact List.Sublist.slnil | ((with_reducible refine List.Sublist.cons₂ _ ?_); fail "sub") | ((with_reducible refine List.Sublist.cons _ ?_); fail "sub") | assumption)
local macro_rules | `(tactic| fail "sub2") => `(tactic| first | exact List.Sublist.slnil | (with_reducible exact List.Sublist.refl _) | (with_reducible exact List.sublist_append_left _ _) | ((with_reducible refine List.Sublist.cons₂ _ ?_); fail "sub2") | ((with_reducible refine List.Sublist.cons _ ?_); fail "sub2"))
local macro_rules | `(tactic| fail "mine") => `(tactic| first | (refine .inl ?_; assumption) | exact .inr rfl | (refine .inr ?_; assumption))
local macro_rules | `(tactic| fail "ix") => `(tactic| ((with_reducible refine ix_k ?_); (fail "aq"); (first | (refine .inl ⟨_, rfl, _, rfl, ?_⟩) | (refine .inr ⟨_, rfl, _, rfl, ?_⟩))))
local macro_rules | `(tactic| fail "gf") => `(tactic| first | (exact Xi.Gfs.nil) | ((apply Xi.Gfs.cons); (first | (exact Xi.Gf.int) | (refine Xi.Gf.str ?_; (first | assumption | decide +kernel)) | (exact Xi.Gf.non) | (exact Xi.Gf.bl)); (fail "gf")))
local macro_rules | `(tactic| fail "gn") => `(tactic| first | (exact Xi.Gns.nil) | ((apply Xi.Gns.cons); (first | (exact Xi.Gn.fl Xi.Gf.int) | (refine Xi.Gn.fl (Xi.Gf.str ?_); (first | assumption | decide +kernel)) | (exact Xi.Gn.fl Xi.Gf.non) | (exact Xi.Gn.fl Xi.Gf.bl) | ((apply Xi.Gn.tup); (fail "at"); (fail "gf")) | ((apply Xi.Gn.lst); (fail "at"); (fail "gf"))); (fail "gn")))
local macro_rules | `(tactic| fail "seqeq") => `(tactic| first | ((with_reducible refine' gs_eqT ?hr ?ia ?ib ?f ?g ?e ?h); (case hr => exact Xi.Body.room (by assumption)); (case ia => fail "at"); (case ib => fail "at"); (case f => fail "gn"); (case g => fail "gn"); (case e => with_reducible rfl)) | ((with_reducible refine' gs_neT ?hr ?ia ?ib ?f ?g ?e ?h); (case hr => exact Xi.Body.room (by assumption)); (case ia => fail "at"); (case ib => fail "at"); (case f => fail "gn"); (case g => fail "gn"); (case e => with_reducible rfl)) | ((with_reducible refine' gs_eqL ?hr ?ia ?ib ?f ?g ?e ?h); (case hr => exact Xi.Body.room (by assumption)); (case ia => fail "at"); (case ib => fail "at"); (case f => fail "gn"); (case g => fail "gn"); (case e => with_reducible rfl)) | ((with_reducible refine' gs_neL ?hr ?ia ?ib ?f ?g ?e ?h); (case hr => exact Xi.Body.room (by assumption)); (case ia => fail "at"); (case ib => fail "at"); (case f => fail "gn"); (case g => fail "gn"); (case e => with_reducible rfl)) | ((with_reducible refine' go_eqT ?hr ?ia ?ib ?f ?g ?h); (case hr => exact Xi.Body.room (by assumption)); (case ia => fail "at"); (case ib => fail "at"); (case f => fail "gn"); (case g => fail "gn")) | ((with_reducible refine' go_neT ?hr ?ia ?ib ?f ?g ?h); (case hr => exact Xi.Body.room (by assumption)); (case ia => fail "at"); (case ib => fail "at"); (case f => fail "gn"); (case g => fail "gn")) | ((with_reducible refine' go_eqL ?hr ?ia ?ib ?f ?g ?h); (case hr => exact Xi.Body.room (by assumption)); (case ia => fail "at"); (case ib => fail "at"); (case f => fail "gn"); (case g => fail "gn")) | ((with_reducible refine' go_neL ?hr ?ia ?ib ?f ?g ?h); (case hr => exact Xi.Body.room (by assumption)); (case ia => fail "at"); (case ib => fail "at"); (case f => fail "gn"); (case g => fail "gn")))
local macro_rules | `(tactic| fail "r") => `(tactic| first
  | ((with_reducible show ro _ _ _ _ _ _ _ _); (first | (with_reducible refine ro_add ?_) | (with_reducible refine ro_sub ?_) | (with_reducible refine ro_lt ?_) | (with_reducible refine ro_le ?_) | (with_reducible refine ro_gt ?_) | (with_reducible refine ro_ge ?_) | (with_reducible refine ro_eq ?_) | (with_reducible refine ro_ne ?_) | (with_reducible refine ro_eqS ?_) | (with_reducible refine ro_eqBl ?_) | (with_reducible refine ro_notBl ?_) | (with_reducible refine ro_isBl ?_) | (with_reducible refine ro_neBl ?_) | (with_reducible refine ro_neS ?_) | (with_reducible refine ro_isN ?_) | (with_reducible refine ro_notN ?_) | (with_reducible refine ru_neg ?_) | ((with_reducible refine ro_pow3 ?_ ?_); (omega)) | (with_reducible refine ro_pow13 ?_) | (with_reducible refine ro_pow18 ?_) | (with_reducible refine ro_pow12 ?_) | (with_reducible refine ro_pow20 ?_) | (with_reducible refine ro_pow9 ?_) | (with_reducible refine ro_pow40 ?_) | (with_reducible refine ro_pow58 ?_) | (with_reducible refine ro_pow59 ?_) | (with_reducible refine ro_pow60 ?_) | (with_reducible refine ro_pow30 ?_) | (with_reducible refine ro_pow5 ?_) | (with_reducible refine ro_pow6 ?_) | (with_reducible refine ro_pow7 ?_) | (with_reducible refine ro_pow10 ?_) | (with_reducible refine ro_pow14 ?_) | (with_reducible refine ro_pow15 ?_) | (with_reducible refine ro_pow19 ?_) | (with_reducible refine ro_pow28 ?_) | (with_reducible refine ro_pow29 ?_) | (with_reducible refine ro_pow31 ?_) | (with_reducible refine ro_pow38 ?_) | (with_reducible refine ro_pow39 ?_) | (with_reducible refine ro_pow50 ?_) | (with_reducible refine ro_pow56 ?_) | (with_reducible refine ro_pow57 ?_) | (with_reducible refine ro_pow61 ?_) | (with_reducible refine ro_pow63 ?_) | (with_reducible refine ro_pow64 ?_) | ((with_reducible refine ro_mulL ?_ ?_); (omega)) | ((with_reducible refine ro_mulR ?_ ?_); (omega)) | ((with_reducible refine ro_mod ?_ ?_); (omega)) | ((with_reducible refine ro_div (n := 60) ?_ ?_ ?_ ?_); (omega); (decide); (decide)) | (((with_reducible refine' ro_sum ?bd ?O ?hj ?ia ?ib ?hC ?hD ?o1 ?o2 ?ft ?q); (case bd => (with_reducible assumption)); (case O => (with_reducible assumption)); (case hj => rfl); (case ia => fail "at"); (case ib => fail "at"); (case hC => (with_reducible assumption)); (case hD => (with_reducible assumption)); (case o1 => (with_reducible assumption)); (case o2 => (with_reducible assumption)); (case ft => (with_reducible assumption))); (intro _ _ _)) | (((with_reducible refine' ro_prod ?bd ?O ?hj ?ty ?sb ?ia ?hC ?o1 ?h1 ?h2 ?h3 ?h4 ?q); (case bd => (with_reducible assumption)); (case O => (with_reducible assumption)); (case hj => rfl); (case ty => (with_reducible assumption)); (case sb => (with_reducible assumption)); (case ia => fail "at"); (case hC => (with_reducible assumption)); (case o1 => (with_reducible assumption)); (case h1 => omega); (case h2 => omega); (case h3 => omega); (case h4 => omega)); (intro _ _ _)) | ((with_reducible refine' ro_eqLn ?bd ?O ?hj ?ia ?ib ?hC ?hD ?q); (case bd => (with_reducible assumption)); (case O => (with_reducible assumption)); (case hj => rfl); (case ia => fail "at"); (case ib => fail "at"); (case hC => (with_reducible assumption)); (case hD => (with_reducible assumption))) | ((with_reducible refine' ro_neLn ?bd ?O ?hj ?ia ?ib ?hC ?hD ?q); (case bd => (with_reducible assumption)); (case O => (with_reducible assumption)); (case hj => rfl); (case ia => fail "at"); (case ib => fail "at"); (case hC => (with_reducible assumption)); (case hD => (with_reducible assumption))) | (fail "seqeq")))
  | (with_reducible refine ru_neg ?_))
local macro_rules | `(tactic| fail "call") => `(tactic| first
  | ((with_reducible refine' Body.call ?bd ?D ?hj ?hg ?he ?hpl ?h ?hdb); (case bd => (with_reducible assumption)); (case D => (with_reducible assumption)); (case hj => rfl); (case hg => rfl); (case he => rfl); (case hpl => rfl); (case hdb => rfl))
  | ((with_reducible refine' Body.make ?bd ?D ?hj ?hg ?he ?hpl ?h ?hdb); (case bd => (with_reducible assumption)); (case D => (with_reducible assumption)); (case hj => rfl); (case hg => rfl); (case he => rfl); (case hpl => rfl); (case hdb => rfl))
  | ((with_reducible refine' Body.meth ?bd ?D ?hj ?he ?hpl ?ht ?h); (case bd => (with_reducible assumption)); (case D => (with_reducible assumption)); (case hj => rfl); (case he => rfl); (case hpl => rfl); (case ht => exact ⟨_, rfl⟩))
  | ((with_reducible refine' Body.meth0 ?bd ?D ?hj ?ht ?h); (case bd => (with_reducible assumption)); (case D => (with_reducible assumption)); (case hj => rfl); (case ht => exact ⟨_, rfl⟩))
  | ((with_reducible refine' Body.methK ?bd ?D ?hj ?hall ?hks ?hpl ?ht ?h); (case bd => (with_reducible assumption)); (case D => (with_reducible assumption)); (case hj => rfl); (case hall => rfl); (case hks => rfl); (case hpl => rfl); (case ht => exact ⟨_, rfl⟩))
  | ((with_reducible refine' Body.callK1 ?bd ?D ?hj ?hg ?hall ?hks ?hpl ?h ?hdb); (case bd => (with_reducible assumption)); (case D => (with_reducible assumption)); (case hj => rfl); (case hg => rfl); (case hall => rfl); (case hks => rfl); (case hpl => rfl); (case hdb => rfl))
  | ((with_reducible refine' Body.callK2 ?bd ?D ?hj ?hg ?hall ?hks ?hpl ?h ?hdb); (case bd => (with_reducible assumption)); (case D => (with_reducible assumption)); (case hj => rfl); (case hg => rfl); (case hall => rfl); (case hks => rfl); (case hpl => rfl); (case hdb => rfl))
  | ((with_reducible refine' Body.callK3 ?bd ?D ?hj ?hg ?hall ?hks ?hpl ?h ?hdb); (case bd => (with_reducible assumption)); (case D => (with_reducible assumption)); (case hj => rfl); (case hg => rfl); (case hall => rfl); (case hks => rfl); (case hpl => rfl); (case hdb => rfl))
  | ((with_reducible refine' Body.callKc ?bd ?D ?hj ?hg ?hall ?hks ?hpl ?h ?hdb); (case bd => (with_reducible assumption)); (case D => (with_reducible assumption)); (case hj => rfl); (case hg => rfl); (case hall => rfl); (case hks => rfl); (case hpl => rfl); (case hdb => rfl))
  | ((with_reducible refine' Body.callK ?bd ?D ?hj ?hall ?hks ?hpl ?ht ?h); (case bd => (with_reducible assumption)); (case D => (with_reducible assumption)); (case hj => rfl); (case hall => rfl); (case hks => rfl); (case hpl => rfl); (case ht => rfl))
  | ((with_reducible refine cb_isinstance ?_ ?_ ?_ ?_ ?_); (exact Xi.Body.gl (by assumption) rfl); (exact Xi.Body.no (by assumption) ((show Blt _ by assumption) _ (by fail "mem"))); (rfl); (rfl))
  | ((with_reducible refine cb_len ?_ ?_ ?_ ?_ ?_); (exact Xi.Body.gl (by assumption) rfl); (exact Xi.Body.no (by assumption) ((show Blt _ by assumption) _ (by fail "mem"))); (rfl); (rfl))
  | ((with_reducible refine cb_max ?_ ?_ ?_ ?_ ?_); (exact Xi.Body.gl (by assumption) rfl); (exact Xi.Body.no (by assumption) ((show Blt _ by assumption) _ (by fail "mem"))); (rfl); (rfl))
  | ((with_reducible refine cb_min ?_ ?_ ?_ ?_ ?_); (exact Xi.Body.gl (by assumption) rfl); (exact Xi.Body.no (by assumption) ((show Blt _ by assumption) _ (by fail "mem"))); (rfl); (rfl))
  | ((with_reducible refine cb_abs ?_ ?_ ?_ ?_ ?_); (exact Xi.Body.gl (by assumption) rfl); (exact Xi.Body.no (by assumption) ((show Blt _ by assumption) _ (by fail "mem"))); (rfl); (rfl))
  | ((with_reducible refine cb_repr ?_ ?_ ?_ ?_ ?_); (exact Xi.Body.gl (by assumption) rfl); (exact Xi.Body.no (by assumption) ((show Blt _ by assumption) _ (by fail "mem"))); (rfl); (rfl))
  | ((with_reducible refine cb_sum ?_ ?_ ?_ ?_ ?_); (exact Xi.Body.gl (by assumption) rfl); (exact Xi.Body.no (by assumption) ((show Blt _ by assumption) _ (by fail "mem"))); (rfl); (rfl))
  | ((with_reducible refine cb_all ?_ ?_ ?_ ?_ ?_); (exact Xi.Body.gl (by assumption) rfl); (exact Xi.Body.no (by assumption) ((show Blt _ by assumption) _ (by fail "mem"))); (rfl); (rfl))
  | ((with_reducible refine cb_any ?_ ?_ ?_ ?_ ?_); (exact Xi.Body.gl (by assumption) rfl); (exact Xi.Body.no (by assumption) ((show Blt _ by assumption) _ (by fail "mem"))); (rfl); (rfl))
  | ((with_reducible refine cb_sorted ?_ ?_ ?_ ?_ ?_); (exact Xi.Body.gl (by assumption) rfl); (exact Xi.Body.no (by assumption) ((show Blt _ by assumption) _ (by fail "mem"))); (rfl); (rfl))
  | ((with_reducible refine cb_int ?_ ?_ ?_ ?_ ?_); (exact Xi.Body.gl (by assumption) rfl); (exact Xi.Body.no (by assumption) ((show Blt _ by assumption) _ (by fail "mem"))); (rfl); (rfl))
  | ((with_reducible refine cb_bool ?_ ?_ ?_ ?_ ?_); (exact Xi.Body.gl (by assumption) rfl); (exact Xi.Body.no (by assumption) ((show Blt _ by assumption) _ (by fail "mem"))); (rfl); (rfl))
  | ((with_reducible refine cb_str ?_ ?_ ?_ ?_ ?_); (exact Xi.Body.gl (by assumption) rfl); (exact Xi.Body.no (by assumption) ((show Blt _ by assumption) _ (by fail "mem"))); (rfl); (rfl))
  | ((with_reducible refine cb_list ?_ ?_ ?_ ?_ ?_); (exact Xi.Body.gl (by assumption) rfl); (exact Xi.Body.no (by assumption) ((show Blt _ by assumption) _ (by fail "mem"))); (rfl); (rfl))
  | ((with_reducible refine cb_tuple ?_ ?_ ?_ ?_ ?_); (exact Xi.Body.gl (by assumption) rfl); (exact Xi.Body.no (by assumption) ((show Blt _ by assumption) _ (by fail "mem"))); (rfl); (rfl))
  | ((with_reducible refine' Body.cmeth ?bd ?D ?hj ?he ?hpl ?ht ?h); (case bd => (with_reducible assumption)); (case D => (with_reducible assumption)); (case hj => rfl); (case he => rfl); (case hpl => rfl); (case ht => exact ⟨_, rfl⟩))
  | ((with_reducible refine' Body.makeS ?bd ?D ?hj ?hst ?h); (case bd => (with_reducible assumption)); (case D => (with_reducible assumption)); (case hj => rfl); (case hst => rfl))
  | ((with_reducible refine' Body.callO ?bd ?D ?hj ?ht ?he ?hpl ?h); (case bd => (with_reducible assumption)); (case D => (with_reducible assumption)); (case hj => rfl); (case ht => rfl); (case he => rfl); (case hpl => rfl)))
local macro_rules | `(tactic| fail "ke") => `(tactic| first
  | (((with_reducible refine' ke_n ?n ?m ?l); (case n => (with_reducible assumption)); (case m => fail "mem")); (fail "lk"))
  | ((with_reducible refine' Body.gref ?bd ?hm ?hg ?hd ?h); (case bd => (with_reducible assumption)); (case hm => (with_reducible assumption)); (case hg => rfl); (case hd => rfl))
  | (with_reducible refine ke_int ?_)
  | (with_reducible refine ke_op ?_)
  | (with_reducible refine ke_sl2 ?_)
  | ((with_reducible refine ke_ix ?_ ?_); (exact fun _ _ => rfl))
  | (with_reducible refine ke_str ?_)
  | (with_reducible refine ke_bl ?_)
  | (with_reducible refine ke_non ?_)
  | ((with_reducible refine ke_cmp ?_ ?_); (first | exact nomark _ | rfl))
  | ((with_reducible refine ke_chain ?_ ?_); (with_unfolding_all rfl))
  | (with_reducible refine ke_one ?_)
  | (with_reducible refine ke_and ?_)
  | (with_reducible refine ke_or ?_)
  | (with_reducible refine ke_not ?_)
  | (with_reducible refine ke_un ?_)
  | (with_reducible refine ke_if ?_)
  | (with_reducible refine ke_lst ?_)
  | (with_reducible refine ke_tup ?_)
  | (with_reducible refine ke_sl ?_)
  | ((with_reducible refine' Body.prop ?bd ?D ?hj ?hab ?h); (case bd => (with_reducible assumption)); (case D => (with_reducible assumption)); (case hj => rfl); (case hab => rfl))
  | ((with_reducible refine ke_kind ?_ ?_); (rfl))
  | ((with_reducible refine ke_fld ?_ ?_); (rfl))
  | ((with_reducible refine ke_app ?_ ?_ ?_ ?_ ?_ ?_); (rfl); (rfl); (rfl); (rfl); (rfl))
  | ((with_reducible refine ke_idx ?_ ?_ ?_ ?_ ?_ ?_); (rfl); (rfl); (rfl); (rfl); (rfl))
  | (fail "call"))
local macro_rules | `(tactic| fail "k") => `(tactic| first
  | (with_reducible refine ko_some ?_)
  | (with_reducible refine ko_none ?_)
  | ((with_reducible refine ka_cons ?_ ?_); (rfl))
  | (with_reducible refine ka_nil ?_)
  | (with_reducible refine kk_nil ?_)
  | (with_reducible refine kk_cons ?_)
  | (fail "r")
  | (fail "ix")
  | (with_reducible refine kt_not ?_)
  | (with_reducible refine kt_w (kw_and ?_))
  | (with_reducible refine kt_w (kw_or ?_))
  | (with_reducible refine kw_and ?_)
  | (with_reducible refine kw_or ?_)
  | (with_reducible refine kw_and1 ?_)
  | (with_reducible refine kw_or1 ?_)
  | ((with_reducible refine kt_cmp ?_ ?_); (first | exact nomark _ | rfl))
  | ((with_reducible refine kt_chain3 ?_ ?_); (with_unfolding_all rfl))
  | ((with_reducible refine kt_chain ?_ ?_); (with_unfolding_all rfl))
  | ((with_reducible refine kt_val ?_ ?_); (intro _; rfl))
  | ((with_reducible show _ ∧ New _ _ _ _); (refine ⟨sz1000 rfl, ?_⟩); intro p np)
  | ((with_reducible show Pq _ _ _ _ _); (fail "pt")))
local macro_rules | `(tactic| fail "ex") => `(tactic| first
  | ((with_reducible show ∃ _, _); (first | ((with_reducible apply app_1); (fail "at")) | ((with_reducible apply sl_1); (fail "at"); (intro _ _)) | ((with_reducible apply sl2_3); (fail "at"); (intro _ _)) | ((with_reducible apply recv); (fail "at"); (with_reducible assumption); (decide +kernel); (decide +kernel); (decide +kernel)) | ((with_reducible apply fld_kind); (fail "at"); (with_reducible assumption); (with_reducible assumption)) | ((with_reducible apply fld_every); (fail "at"); (with_reducible assumption)) | ((with_reducible apply fld_at); (fail "at"); (with_reducible assumption)) | ((with_reducible apply fld_ride); (fail "at"); (with_reducible assumption)) | ((with_reducible apply rrecv); (fail "at"); (decide +kernel)) | ((with_reducible apply fld_legs); (fail "at"); (with_reducible assumption)) | ((with_reducible apply set_legs); (fail "spot"); (fail "mark"); (with_reducible assumption)) | ((with_reducible apply rrecvP); (fail "at")) | ((with_reducible apply set_every); (fail "spot"); (fail "mark"); (with_reducible assumption)) | ((with_reducible apply set_at); (fail "spot"); (fail "mark"); (with_reducible assumption)) | ((with_reducible apply set_ride); (fail "spot"); (fail "mark"); (with_reducible assumption)) | ((with_reducible apply recvP); (fail "at"); (with_reducible assumption)) | ((with_reducible refine sub_k ?_ ?_); (fail "mine"); (fail "sq"); (first | (refine ⟨_, rfl, 0, rfl, ?_⟩) | (refine ⟨_, rfl, 1, rfl, ?_⟩) | (refine ⟨_, rfl, 2, rfl, ?_⟩) | (refine ⟨_, rfl, 3, rfl, ?_⟩)); (dsimp only [List.set_cons_zero, List.set_cons_succ])) | (with_reducible refine ⟨_, rfl, ?_⟩) | (with_reducible refine ⟨_, _, rfl, ?_⟩) | (with_reducible refine ⟨_, _, _, rfl, ?_⟩)))
  | (with_reducible refine ⟨rfl, ?_⟩)
  | ((with_reducible refine ⟨?_, ?_⟩); (first | ((with_reducible apply recvO); (fail "at"); (with_reducible assumption)) | ((with_reducible apply rrecvO); (fail "at")))))
local macro_rules | `(tactic| fail "mark") => `(tactic| first
  | (exact .inl (by assumption))
  | (exact .inr rfl)
  | (exact .inr (by assumption)))
local macro_rules | `(tactic| fail "st") => `(tactic| first | ((with_reducible refine' ks_n ?n ?m ?mN ?hs ?h); (case n => (with_reducible assumption)); (case m => fail "mem"); (case mN => fail "mem"); (case hs => rfl)) | (with_reducible refine ks_if ?_) | (with_reducible refine ks_ret ?_) | (with_reducible refine ks_retN ?_) | ((with_reducible refine ks_expr ?_ ?_); (rfl)) | ((with_reducible refine ks_fld ?_ ?_); (rfl)) | ((with_reducible refine' Body.par ?bd ?n ?mx ?my ?hxy ?hx ?hy ?hw ?hs ?h); (case bd => (with_reducible assumption)); (case n => (with_reducible assumption)); (case mx => fail "mem"); (case my => fail "mem"); (case hxy => rfl); (case hx => rfl); (case hy => rfl); (case hw => (intro env he; cases env; cases he; rfl)); (case hs => rfl)) | ((with_reducible refine ks_asg ?_ ?_ ?_ ?_); (rfl); (rfl); (rfl)))
local macro_rules | `(tactic| fail "s") => `(tactic| first
  | ((with_reducible refine kb_seq ?_); (fail "st"))
  | ((with_reducible show ks _ _ _ _ _ _ _ _ _ _); (fail "st"))
  | ((with_reducible show kg _ _ _ _ _ _ _ _); ((with_reducible refine' kg_tup ?hc ?hn ?hst ?ia ?hl ?h); (case hc => exact Xi.Body.calm (by assumption)); (case hn => rfl); (case hst => rfl); (case ia => fail "at"); (case hl => rfl)))
  | ((with_reducible show kg _ _ _ _ _ _ _ _); ((with_reducible refine' kg_unl ?hc ?hn ?hst ?ia ?hl ?h); (case hc => exact Xi.Body.calm (by assumption)); (case hn => rfl); (case hst => rfl); (case ia => fail "at"); (case hl => rfl)))
  | ((with_reducible show kgs _ _ _ _ _ _ _ _); (with_reducible refine kgs_cons ?_ ?_); (rfl))
  | ((with_reducible show kgs _ _ _ _ _ _ _ _); (with_reducible refine kgs_nil ?_))
  | ((with_reducible show kg _ _ _ _ _ _ _ _); (with_reducible refine kg_sub ?_ ?_); (intro _; rfl))
  | ((with_reducible show kg _ _ _ _ _ _ _ _); ((with_reducible refine' kg_n ?n ?m ?h); (case n => (with_reducible assumption)); (case m => fail "mem")); (fail "pt")))
local macro_rules | `(tactic| fail "rs") => `(tactic| first
  | ((with_reducible show ∀ _ _, _ → _ → rs _ _ _ _ _ _ _); (intro _ _ _ _))
  | ((with_reducible show rs _ _ _ _ _ _ _); (first | (with_reducible refine rs_isInt ?_) | ((with_reducible apply rs_waited); (fail "at"); (omega)) | ((with_reducible apply rs_arrival); (fail "at"); (omega)) | ((with_reducible apply rs_triple); (fail "at"); (with_reducible assumption); (intro _ _)) | ((with_reducible apply rs_later); (fail "at"); (fail "at"); (with_reducible assumption); (with_reducible assumption); (with_reducible assumption); (with_reducible assumption); (with_reducible assumption)) | ((with_reducible apply rs_back); (fail "at"); (with_reducible assumption); (with_reducible assumption); (intro _ _ _)) | ((with_reducible apply rs_init); (fail "spot"); (fail "mark"); (with_reducible assumption); (omega); (omega); (omega)) | ((with_reducible apply rs_walk); (fail "spot"); (fail "mark"); (omega)) | ((with_reducible apply rs_stop); (fail "spot"); (fail "mark"); (omega); (omega)) | ((with_reducible apply rs_chain); (fail "spot"); (fail "mark"); (omega); (intro _ _ _ _ _ _ _ _ _)) | ((with_reducible apply rs_numbers); (fail "spot"); (fail "at"); (fail "two"); (fail "mark"); (omega); (with_reducible assumption); (with_reducible assumption); (intro _ _ _ _ _ _ _ _ _ _ _ _)) | ((with_reducible apply rs_made); (fail "at"); (with_reducible assumption); (intro _ _ _)) | ((with_reducible apply rs_madeK); (fail "at"); (with_reducible assumption); (intro _ _ _)) | ((with_reducible apply rs_right); (fail "spot"); (fail "at"); (fail "two"); (fail "mark"); (omega); (with_reducible assumption); (intro _ _ _ _)) | ((with_reducible apply rs_moments); (fail "spot"); (fail "at"); (fail "two"); (fail "mark"); (omega); (with_reducible assumption); (intro _ _ _ _ _ _ _ _ _)) | ((with_reducible apply rs_moment); (fail "spot"); (fail "mark"); (omega); (intro _ _ _ _ _ _ _)) | ((with_reducible apply rs_legs); (fail "rtl"); (intro _ _)) | ((with_reducible apply rs_rlen); (fail "rtl")) | ((with_reducible apply rs_rcall); (fail "rtl")) | ((with_reducible apply rs_rline); (fail "rtl"); (intro _ _ _)) | ((with_reducible apply rs_rback); (fail "rtl"); (intro _ _ _ _ _ _ _)) | ((with_reducible apply rs_line); (fail "at"); (with_reducible assumption); (omega)) | ((with_reducible apply rs_prop); (fail "at"); (with_reducible assumption)) | ((with_reducible apply rs_pick); (fail "spot"); (fail "mark"); (omega); (omega); (omega); (intro _ _ _ _ _ _ _)))))
local macro_rules | `(tactic| fail "rc") => `(tactic| first
  | ((with_reducible show rc _ _ _ _ _ _ _); (first | ((with_reducible refine' rc_reprL ?hr ?gd ?ia ?f ?hn ?h); (case hr => exact Xi.Body.room (by assumption)); (case gd => exact Xi.Body.gd (by assumption)); (case ia => fail "at"); (case f => fail "fl"); (case hn => exact rfl)) | ((with_reducible refine' rc_reprT ?hr ?gd ?ia ?f ?hn ?h); (case hr => exact Xi.Body.room (by assumption)); (case gd => exact Xi.Body.gd (by assumption)); (case ia => fail "at"); (case f => fail "fl"); (case hn => exact rfl)) | ((with_reducible refine' rc_lenL ?ia ?h); (case ia => fail "at")) | ((with_reducible refine' rc_lenT ?ia ?h); (case ia => fail "at")) | (((with_reducible refine' rc_tuple ?ia ?h); (case ia => fail "at")); (intro _ _)) | (with_reducible refine rc_abs ?_) | ((with_reducible refine rc_max2 ?_ ?_); (exact Xi.Body.calm (by assumption))) | ((with_reducible refine rc_min2 ?_ ?_); (exact Xi.Body.calm (by assumption))) | (with_reducible refine rc_intI ?_) | (with_reducible refine rc_intB ?_))))
local macro_rules | `(tactic| fail "p") => `(tactic| first
  | ((with_reducible show PickB _ _ _); (first | (with_reducible refine pickB_T ?_) | (with_reducible refine pickB_F ?_) | (with_reducible refine pickB_nT ?_) | (with_reducible refine pickB_nF ?_) | ((with_reducible apply pickB_eY); (exact rfl)) | ((with_reducible apply pickB_dY); (exact rfl)) | ((with_reducible apply pickB_dY); (omega)) | ((with_reducible apply pickB_dN); (omega)) | ((with_reducible apply pickB_eY); (omega)) | ((with_reducible apply pickB_eN); (omega)) | ((with_reducible apply pickB_dY); (decide +kernel)) | ((with_reducible apply pickB_dN); (decide +kernel)) | ((with_reducible apply pickB_eY); (decide +kernel)) | ((with_reducible apply pickB_eN); (decide +kernel)) | ((with_reducible apply pickB_N); (decide +kernel)) | ((with_reducible apply pickB_Y); (decide +kernel))))
  | ((with_reducible show Pick _ _ _); (first | (with_reducible refine pick_T ?_) | (with_reducible refine pick_F ?_) | (with_reducible refine pick_nT ?_) | (with_reducible refine pick_nF ?_) | ((with_reducible apply pick_dY); (omega)) | ((with_reducible apply pick_dN); (omega)) | ((with_reducible apply pick_eY); (omega)) | ((with_reducible apply pick_eN); (omega)))))
local macro_rules | `(tactic| fail "1") => `(tactic| first | ((with_reducible show ke _ _ _ _ _ _ _); (fail "ke")) | fail "k" | fail "s" | fail "ex" | fail "rs" | fail "rc" | fail "p")
local macro_rules | `(tactic| fail "x") => `(tactic| repeat fail "1")
local macro_rules | `(tactic| fail "y") => `(tactic| repeat first | fail "1" | (with_reducible refine kb_nil' ?_))
local macro_rules | `(tactic| fail "all") => `(tactic| first | (exact List.forall_mem_nil _) | ((refine List.forall_mem_cons.2 ⟨?_, ?_⟩); ((try dsimp only); omega); fail "all"))
local macro_rules | `(tactic| fail "ixI") => `(tactic| ((fail "aq"); (first | (refine ⟨[_], rfl, ?_, ?_, ?_, ?_⟩) | (refine ⟨[_, _], rfl, ?_, ?_, ?_, ?_⟩) | (refine ⟨[_, _, _], rfl, ?_, ?_, ?_, ?_⟩) | (refine ⟨[_, _, _, _], rfl, ?_, ?_, ?_, ?_⟩) | (refine ⟨[_, _, _, _, _], rfl, ?_, ?_, ?_, ?_⟩) | (refine ⟨[_, _, _, _, _, _], rfl, ?_, ?_, ?_, ?_⟩)); (omega); (simp only [List.length_cons, List.length_nil]; omega); (fail "all"); (try dsimp only); intro _ _))
local macro_rules | `(tactic| fail "two") => `(tactic| first | ((with_reducible apply Xi.Two.l); (fail "at")) | ((with_reducible apply Xi.Two.r); (fail "at")) | ((with_reducible apply Xi.Two.t); (fail "two")))
local macro_rules | `(tactic| fail "fl") => `(tactic| first | (exact Xi.Fls.nil) | ((apply Xi.Fls.cons); (first | (refine Xi.Fl.int (log_of ?_); omega) | (refine Xi.Fl.str ?_; (first | assumption | decide +kernel)) | (exact Xi.Fl.non) | (exact Xi.Fl.bl)); (fail "fl")))
local macro_rules | `(tactic| fail "fn") => `(tactic| first | (exact Xi.Fns.nil) | ((apply Xi.Fns.cons); (first | (refine Xi.Fn.fl (Xi.Fl.int (log_of ?_)); omega) | (refine Xi.Fn.fl (Xi.Fl.str ?_); (first | assumption | decide +kernel)) | (exact Xi.Fn.fl Xi.Fl.non) | (exact Xi.Fn.fl Xi.Fl.bl) | ((apply Xi.Fn.tup); (fail "at"); (fail "fl"); (exact rfl)) | ((apply Xi.Fn.lst); (fail "at"); (fail "fl"); (exact rfl))); (fail "fn")))

section
variable {P : Program} {K : PySem.W.Frag} {mg : Str → Option Value} {c : Cs3} {f f2 cda cc : Addr} {fd2 : FuncData} {oc kV doc pm ct : Value} {od an : Option Addr} {osl : Array (Option Value)}
theorem Chg.later {H H2 H3 : Hp} {L : LL} {a : Addr} {o : HO} (z : Hs H (fun x => x = a) L H2) (x : Chg H2 H3 a o []) : Chg H H3 a o [] := ⟨fun b u e ne => x.fr b u (z.fr b u e ne) ne, x.at_, .nil⟩
theorem mak_walk (lk : K.lookup f = some ⟨oc, od, .func (PySem.W.ksFn "__init__" "Walk.__init__" (defArgs s_Walk_init) (defBody s_Walk_init) (defScope s_Walk_init) .none kV doc pm an (.ref cda) ct cc), osl⟩) (hcd : PySem.W.codeIn K (.ref cda) "Walk.__init__" = true)
    (O : SupOk K P "Walk.__init__" (defScope s_Walk_init) ["self", "ride"] f2 cda cc c.w "__init__") (hms : mg "super" = none) (F2 : Fun K "__init__" "Line.__init__" s_Line_init f2 fd2) (hm : mg "Walk" = some (.ref c.w)) (mk : Mk K c.w f) : MakW P K mg c := ⟨fun {w base} h => by
  refine ⟨f, PySem.W.ksFn "__init__" "Walk.__init__" (defArgs s_Walk_init) (defBody s_Walk_init) (defScope s_Walk_init) .none kV doc pm an (.ref cda) ct cc, ["self", "ride"], ?_, hm, mk, Binds.all fun us hl => match us, hl with | [_, _], _ => rfl⟩
  refine fk_super (x0 := "self") (sp := spWalk c) (k := 2) lk hcd (by (conv => lhs; whnf)) O hms rfl rfl (h f2 fd2 F2) (bi_Line_init f2 fd2 F2) (Nat.le_refl 2) (fun vs H Q E h => by obtain ⟨a, dx, r, rfl, _⟩ := h; rfl) (fun _ => rfl) (fun _ => rfl) (fun _ => ⟨_, rfl⟩) (fun _ => rfl) ?_
  intro X hN hS H vs Q E h
  obtain ⟨a, dx, r, rfl, ha, h3, k⟩ := h
  have nm : Nm X ["self", "ride"] ["self", "ride"] := ⟨hN, fun x hx => by rw [hS]; exact .inl (O.par x hx), fun x hx => by
    simp only [List.mem_cons, List.not_mem_nil, or_false] at hx
    rcases hx with rfl | rfl <;> exact ⟨by decide +kernel, by decide +kernel⟩⟩
  refine ⟨a, dx, [], rfl, ha, ?_⟩
  refine wa_mono (Q := upA H (fun x => x = a) fun us L => us = [.int 1, .int 0, .int r] ∧ L = [(a, .ins c.w dx [])]) ?_ fun us H2 ⟨L1, z, e1, e2⟩ => ?_
  · refine ka_go (σ := [some (.ref a), some (.int r)]) (L := [(a, .ins c.w dx [])]) (.m1 ha) ?_
    fail "x"
    exact rfl
  · subst e1 e2
    exact ⟨a, c.w, dx, 1, 0, r, rfl, z.get .here, .inr (.inl rfl), by decide, by decide, h3, fun H3 x => k H3 (Chg.later z x)⟩⟩
theorem mak_stop (lk : K.lookup f = some ⟨oc, od, .func (PySem.W.ksFn "__init__" "Stop.__init__" (defArgs s_Stop_init) (defBody s_Stop_init) (defScope s_Stop_init) .none kV doc pm an (.ref cda) ct cc), osl⟩) (hcd : PySem.W.codeIn K (.ref cda) "Stop.__init__" = true)
    (O : SupOk K P "Stop.__init__" (defScope s_Stop_init) ["self", "every", "at"] f2 cda cc c.s "__init__") (hms : mg "super" = none) (F2 : Fun K "__init__" "Line.__init__" s_Line_init f2 fd2) (hm : mg "Stop" = some (.ref c.s)) (mk : Mk K c.s f) : MakS P K mg c := ⟨fun {w base} h => by
  refine ⟨f, PySem.W.ksFn "__init__" "Stop.__init__" (defArgs s_Stop_init) (defBody s_Stop_init) (defScope s_Stop_init) .none kV doc pm an (.ref cda) ct cc, ["self", "every", "at"], ?_, hm, mk, Binds.all fun us hl => match us, hl with | [_, _, _], _ => rfl⟩
  refine fk_super (x0 := "self") (sp := spStop c) (k := 2) lk hcd (by (conv => lhs; whnf)) O hms rfl rfl (h f2 fd2 F2) (bi_Line_init f2 fd2 F2) (Nat.le_refl 2) (fun vs H Q E h => by obtain ⟨a, dx, e, t, rfl, _⟩ := h; rfl) (fun _ => rfl) (fun _ => rfl) (fun _ => ⟨_, rfl⟩) (fun _ => rfl) ?_
  intro X hN hS H vs Q E h
  obtain ⟨a, dx, e, t, rfl, ha, h1, h2, k⟩ := h
  have nm : Nm X ["self", "every", "at"] ["self", "every", "at"] := ⟨hN, fun x hx => by rw [hS]; exact .inl (O.par x hx), fun x hx => by
    simp only [List.mem_cons, List.not_mem_nil, or_false] at hx
    rcases hx with rfl | rfl | rfl <;> exact ⟨by decide +kernel, by decide +kernel⟩⟩
  refine ⟨a, dx, [], rfl, ha, ?_⟩
  refine wa_mono (Q := upA H (fun x => x = a) fun us L => us = [.int e, .int t, .int 0] ∧ L = [(a, .ins c.s dx [])]) ?_ fun us H2 ⟨L1, z, e1, e2⟩ => ?_
  · refine ka_go (σ := [some (.ref a), some (.int e), some (.int t)]) (L := [(a, .ins c.s dx [])]) (.m1 ha) ?_
    fail "x"
    exact rfl
  · subst e1 e2
    exact ⟨a, c.s, dx, e, t, 0, rfl, z.get .here, .inr (.inr rfl), h1, h2, by decide, fun H3 x => k H3 (Chg.later z x)⟩⟩
end

section
variable {P : Program} {w : World} {K : PySem.W.Frag} {mg : Str → Option Value} {base : Heap} {c : Cs3}
theorem ok_is_integer (T : Tx P K mg c) : DefT P w K mg base CX0 1 "is_integer" spIsInt :=
  T.is_integer.ok bi_is_integer fun f fd F => fk_body F sc_is_integer lo_is_integer pl_is_integer (by (conv => lhs; whnf)) (fun vs H Q E h => by obtain ⟨i, rfl, _⟩ := h; rfl) (fun X bd ns H vs Q E h => by
    obtain ⟨i, rfl, k⟩ := h
    have nm := bd.nm
    with_reducible refine wb_go (M := fun _ => False) (L := []) (σ := [some (.int i)]) ?e .s0 ?_
    (case e => rfl)
    have hB := T.blt
    fail "x"
    refine ke_c (pe_bltn (v := .ty "int") (bd.gl rfl) (bd.no (hB _ (by fail "mem"))) bo_int rfl) ?_
    fail "x"
    refine rc_isi (.ty "int") (fun _ _ => .base (.int _)) (kit_ty (b := "int") (r := true) (by decide +kernel)) ?_
    refine pick_T ?_
    fail "x"
    refine ke_c (pe_bltn (v := .ty "bool") (bd.gl rfl) (bd.no (hB _ (by fail "mem"))) bo_bool rfl) ?_
    fail "x"
    refine rc_isi (.ty "bool") (fun _ _ => .base (.int _)) (kit_ty (b := "bool") (r := false) (by decide +kernel)) ?_
    fail "x"
    exact fun H' z => k.e0 z)
theorem fk_Line_departure (T : Tx P K mg c) : ∀ f fd, Fun K "departure" "Line.departure" s_Line_departure f fd → Fk P w K mg base CX0 1 f fd ["self", "time"] (spLine c depV) :=
  fun f fd F => fk_body F sc_Line_departure lo_Line_departure pl_Line_departure (by (conv => lhs; whnf)) (fun vs H Q E h => by obtain ⟨a, C, dx, e, t, r, p, rfl, _⟩ := h; rfl) (fun X bd ns H vs Q E h => by
    obtain ⟨a, C, dx, e, t, r, p, rfl, ha, hC, he, k⟩ := h
    have nm := bd.nm
    have hK : LnK X.K C := by rw [bd.K]; exact T.ln C hC
    with_reducible refine wb_go (M := fun _ => False) (L := [(a, lineO C dx e t r)]) (σ := [some (.ref a), some (.int p)]) ?e (.s1 ha) ?_
    (case e => rfl)
    fail "x"
    exact fun H' z => k.e0 z)
theorem ok_Line_departure (T : Tx P K mg c) : MethT P w K mg base CX0 1 (Ln c) "departure" (spLine c depV) :=
  T.Line_departure.ok (fun C h => (T.ln C h).cls) bi_Line_departure (fk_Line_departure T)
theorem fk_Line_call (T : Tx P K mg c) : ∀ f fd, Fun K "__call__" "Line.__call__" s_Line_call f fd → Fk P w K mg base CX0 2 f fd ["self", "time"] (spLine c arrV) :=
  fun f fd F => fk_body F sc_Line_call lo_Line_call pl_Line_call (by (conv => lhs; whnf)) (fun vs H Q E h => by obtain ⟨a, C, dx, e, t, r, p, rfl, _⟩ := h; rfl) (fun X bd ns H vs Q E h => by
    obtain ⟨a, C, dx, e, t, r, p, rfl, ha, hC, he, k⟩ := h
    have nm := bd.nm
    have hK : LnK X.K C := by rw [bd.K]; exact T.ln C hC
    have d1 := ok_Line_departure (P := P) (w := w) (base := base) T
    with_reducible refine wb_go (M := fun _ => False) (L := [(a, lineO C dx e t r)]) (σ := [some (.ref a), some (.int p)]) ?e (.s1 ha) ?_
    (case e => rfl)
    fail "x"
    exact fun H' z => k.e0 z)
theorem ok_Line_call (T : Tx P K mg c) : CallT P w K mg base CX0 2 (Ln c) (spLine c arrV) :=
  T.Line_call.ok bi_Line_call (fk_Line_call T)
end

section
variable {P : Program} {w : World} {K : PySem.W.Frag} {mg : Str → Option Value} {base : Heap} {c : Cs3}
theorem ok_Line_every (T : Tx P K mg c) : PropT P w K mg base CX0 1 (Ln c) "every" (spProp c fun e _ _ => .int e) :=
  T.Line_every.ok (fun C h => (T.ln C h).cls) bi_Line_every fun f fd F => fk_body F sc_Line_every lo_Line_every pl_Line_every (by (conv => lhs; whnf)) (fun vs H Q E h => by obtain ⟨a, C, dx, e, t, r, rfl, _⟩ := h; rfl) (fun X bd ns H vs Q E h => by
    obtain ⟨a, C, dx, e, t, r, rfl, ha, hC, k⟩ := h
    have nm := bd.nm
    have hK : LnK X.K C := by rw [bd.K]; exact T.ln C hC
    with_reducible refine wb_go (M := fun _ => False) (L := [(a, lineO C dx e t r)]) (σ := [some (.ref a)]) ?e (.s1 ha) ?_
    (case e => rfl)
    fail "x"
    exact fun H' z => k.e0 z)
theorem ok_Line_at (T : Tx P K mg c) : PropT P w K mg base CX0 1 (Ln c) "at" (spProp c fun _ t _ => .int t) :=
  T.Line_at.ok (fun C h => (T.ln C h).cls) bi_Line_at fun f fd F => fk_body F sc_Line_at lo_Line_at pl_Line_at (by (conv => lhs; whnf)) (fun vs H Q E h => by obtain ⟨a, C, dx, e, t, r, rfl, _⟩ := h; rfl) (fun X bd ns H vs Q E h => by
    obtain ⟨a, C, dx, e, t, r, rfl, ha, hC, k⟩ := h
    have nm := bd.nm
    have hK : LnK X.K C := by rw [bd.K]; exact T.ln C hC
    with_reducible refine wb_go (M := fun _ => False) (L := [(a, lineO C dx e t r)]) (σ := [some (.ref a)]) ?e (.s1 ha) ?_
    (case e => rfl)
    fail "x"
    exact fun H' z => k.e0 z)
theorem ok_Line_ride (T : Tx P K mg c) : PropT P w K mg base CX0 1 (Ln c) "ride" (spProp c fun _ _ r => .int r) :=
  T.Line_ride.ok (fun C h => (T.ln C h).cls) bi_Line_ride fun f fd F => fk_body F sc_Line_ride lo_Line_ride pl_Line_ride (by (conv => lhs; whnf)) (fun vs H Q E h => by obtain ⟨a, C, dx, e, t, r, rfl, _⟩ := h; rfl) (fun X bd ns H vs Q E h => by
    obtain ⟨a, C, dx, e, t, r, rfl, ha, hC, k⟩ := h
    have nm := bd.nm
    have hK : LnK X.K C := by rw [bd.K]; exact T.ln C hC
    with_reducible refine wb_go (M := fun _ => False) (L := [(a, lineO C dx e t r)]) (σ := [some (.ref a)]) ?e (.s1 ha) ?_
    (case e => rfl)
    fail "x"
    exact fun H' z => k.e0 z)
theorem fk_Line_init (T : Tx P K mg c) : ∀ f fd, Fun K "__init__" "Line.__init__" s_Line_init f fd → Fk P w K mg base CX0 2 f fd ["self", "every", "at", "ride"] (spInit c) :=
  fun f fd F => fk_body F sc_Line_init lo_Line_init pl_Line_init (by (conv => lhs; whnf)) (fun vs H Q E h => by obtain ⟨a, C, dx, e, t, r, rfl, _⟩ := h; rfl) (fun X bd ns H vs Q E h => by
    obtain ⟨a, C, dx, e, t, r, rfl, ha, hC, h1, h2, h3, k⟩ := h
    have nm := bd.nm
    have hK : LnK X.K C := by rw [bd.K]; exact T.ln C hC
    have d1 := ok_is_integer (P := P) (w := w) (base := base) T
    with_reducible refine wb_go (M := fun x => x = a) (L := [(a, .ins C dx [])]) (σ := [some (.ref a), some (.int e), some (.int t), some (.int r)]) ?e (.m1 ha) ?_
    (case e => rfl)
    fail "y"
    exact fun H' z => k.e0 z .here)
theorem ok_Line (T : Tx P K mg c) : MakeT P w K mg base CX0 2 "Line" c.l (spInit c) := T.Line_init.ok bi_Line_init (fk_Line_init T)
theorem ok_Walk (T : Tx P K mg c) : MakeT P w K mg base CX0 3 "Walk" c.w (spWalk c) := T.walk.ok (fk_Line_init T)
theorem ok_Stop (T : Tx P K mg c) : MakeT P w K mg base CX0 3 "Stop" c.s (spStop c) := T.stop.ok (fk_Line_init T)
end

section
variable {P : Program} {w : World} {K : PySem.W.Frag} {mg : Str → Option Value} {base : Heap} {c : Cs3}
theorem ok_all_fit (T : Tx P K mg c) : DefT P w K mg base CX0 1 "all_fit" spAllFit :=
  T.all_fit.ok bi_all_fit fun f fd F => fk_body F sc_all_fit lo_all_fit pl_all_fit (by (conv => lhs; whnf)) (fun vs H Q E h => by obtain ⟨q, is, rfl, _⟩ := h; rfl) (fun X bd ns H vs Q E h => by
    obtain ⟨q, is, rfl, hq, h1, h2, k⟩ := h
    have nm := bd.nm
    have hB := T.blt
    with_reducible refine wb_go (M := fun _ => False) (L := [(q, .lst (is.map V.int))]) (σ := [some (.ref q), none, none, none]) ?e (.s1 hq) ?_
    (case e => rfl)
    fail "x"
    refine rc_sortI (by fail "at") (fun os p hp hs np => ?_)
    fail "x"
    refine Body.lc bd ns [("small", 2), ("great", 3)] ["small", "great"] ["small", "great"] ⟨rfl, by decide +kernel, by decide +kernel, by decide +kernel, by decide +kernel⟩ (by decide +kernel) (by decide +kernel) (by decide +kernel) (by intro _; rfl) ?_
    refine ki_zip (bd.gl rfl) (bd.no (hB _ (by fail "mem"))) rfl rfl rfl ?_
    fail "x"
    refine ⟨_, _, rfl, .inl (by fail "at"), fun w nw => ?_⟩
    rw [cut_tail]
    refine ⟨_, _, _, _, rfl, rfl, by fail "at", by fail "at", fun J wk D nD => ⟨_, _, _, fun i L => L = [(D, .lst (((List.zipWith (fun s g : Int => decide (g % s = 0)) os os.tail).take i).map V.bl)), (w, .lst (os.map V.int).tail), (p, .lst (os.map V.int)), (q, .lst (is.map V.int))], wk, rfl, ?_, ?_, ?_⟩⟩
    · rintro i L hi rfl
      exact ⟨by fail "at", by fail "at"⟩
    · rintro i x L L' hi rfl ⟨t, u, y, rfl, nt, hu, hy, rfl⟩ B bB nB
      rw [← List.map_tail] at hy
      rw [List.getElem?_map] at hu hy
      obtain ⟨s, hs', rfl⟩ := Option.map_eq_some_iff.mp hu
      obtain ⟨g, hg', rfl⟩ := Option.map_eq_some_iff.mp hy
      have s1 : 1 ≤ s := h1 s (hp.mem_iff.mp (List.mem_of_getElem? hs'))
      have zz : (List.zipWith (fun s g : Int => decide (g % s = 0)) os os.tail)[i]? = some (decide (g % s = 0)) := by rw [List.getElem?_zipWith, hs', hg']
      rw [show wipe [some (V.ref q), some (V.ref p), none, none] _ = [some (V.ref q), some (V.ref p), none, none] from rfl]
      fail "x"
      intro B2 bB2
      refine kf_nil ?_
      rw [if_pos rfl]
      intro B3 bB3
      have nm3 := bB3.nm
      fail "x"
      refine ⟨_, _, by fail "spot", ?_, _, .cons _ (.refl _), ?_⟩
      · rw [List.length_map, List.length_take]
        have h3 := hp.length_eq
        have h4 : min i (List.zipWith (fun s g : Int => decide (g % s = 0)) os os.tail).length ≤ 1000 := Nat.le_trans (Nat.min_le_right _ _) (by rw [List.length_zipWith]; exact Nat.le_trans (Nat.min_le_left _ _) (by omega))
        exact Nat.lt_of_le_of_lt h4 (szl1000 rfl)
      · dsimp only
        rw [take_snoc zz, List.map_append]
        rfl
    · rintro L rfl
      fail "x"
      refine rc_all bd.calm (by fail "at") ?_
      rw [List.take_of_length_le (by rw [List.length_zipWith, List.length_map, List.length_tail, List.length_tail, List.length_map]; exact Nat.le_refl _)]
      exact fun H' z => (k _ ((chain_pairwise (fun x hx => h1 x (hp.mem_iff.mp hx)) hs).trans (fit_perm hp))).e0 z)
theorem ok_check (T : Tx P K mg c) : DefT P w K mg base CX0 2 "check_fitting" spCheck :=
  T.check_fitting.ok bi_check_fitting fun f fd F => fk_body F sc_check_fitting lo_check_fitting pl_check_fitting (by (conv => lhs; whnf)) (fun vs H Q E h => by obtain ⟨e, f, rfl, _⟩ := h; rfl) (fun X bd ns H vs Q E h => by
    obtain ⟨e, f, rfl, h1, h2, h3, k⟩ := h
    have nm := bd.nm
    have hB := T.blt
    have d1 := ok_all_fit (P := P) (w := w) (base := base) T
    with_reducible refine wb_go (M := fun _ => False) (L := []) (σ := [some (.int e), some (.int f)]) ?e .s0 ?_
    (case e => rfl)
    fail "x"
    refine rs_allFit (is := [e, f]) .here (by fail "all") (by simp) (fun b hb => ?_)
    have hb' : b = true := hb.mpr (by simp; exact h3)
    subst hb'
    fail "y"
    exact fun H' z => k.e0 z)
end

section
variable {P : Program} {w : World} {K : PySem.W.Frag} {mg : Str → Option Value} {base : Heap} {c : Cs3}
theorem ok_Line_add (T : Tx P K mg c) : OpT P w K mg base CX0 4 (Ln c) "add" (spAdd c) :=
  T.Line_add.ok bi_Line_add fun f fd F => fk_body F sc_Line_add lo_Line_add pl_Line_add (by (conv => lhs; whnf)) (fun vs H Q E h => by obtain ⟨a, C, dx, e, t, r, b, D, dy, f, u, s, rfl, _⟩ := h; rfl) (fun X bd ns H vs Q E h => by
    obtain ⟨a, C, dx, e, t, r, b, D, dy, f, u, s, rfl, ha, hb, hC, hD, o1, o2, ft, k⟩ := h
    have nm := bd.nm
    have hB := T.blt
    have hK : LnK X.K C := by rw [bd.K]; exact T.ln C hC
    have hK2 : LnK X.K D := by rw [bd.K]; exact T.ln D hD
    have iD : IsK X.K D := by rw [bd.K]; exact T.isk D hD
    have i0 : Is0 X.K := by rw [bd.K]; exact T.is0
    have kD : PySem.W.kitOne X.K (.ref D) (.ref c.l) = some true := by rw [bd.K]; exact T.kl D hD
    have d1 := ok_check (P := P) (w := w) (base := base) T
    have d2 := ok_Line (P := P) (w := w) (base := base) T
    have lnl : Ln c c.l := .inl rfl
    have key : ∃ L, Hs H (fun _ => False) L H ∧ At L a (lineO C dx e t r) ∧ At L b (lineO D dy f u s) := by
      by_cases hab : a = b
      · subst hab
        rw [ha] at hb; cases hb
        exact ⟨_, .s1 ha, .here, .here⟩
      · exact ⟨_, .s2 hab ha hb, .here, .there .here⟩
    obtain ⟨L, hL, ia, ib⟩ := key
    obtain ⟨he, ht, hte, hr⟩ := id o1
    obtain ⟨hf, hu, hus, hs⟩ := id o2
    have W := addW_rng (e := e) (t := t) (r := r) (f := f) (u := u) he hf
    have lst : LOk _ _ _ := o1.sum o2
    with_reducible refine wb_go (M := fun _ => False) (L := L) (σ := [some (.ref a), some (.ref b), none, none]) ?e hL ?_
    (case e => rfl)
    fail "x"
    refine bd.gref T.gl rfl rfl ?_
    fail "x"
    refine rc_isiO ib hK2.cls iD i0 kD ?_
    fail "y"
    refine rs_check (by omega) (by omega) ft ?_
    fail "y"
    rw [show ((u - t - r) % if f < e then f else e) = addW e t r f u from rfl]
    refine pickB_dec (fun h => ?_) (fun h => ?_)
    · have k2 : ∀ q dq, H q = none → RetP H Q (.ref q) [(q, lineO c.l dq e t (r + addW e t r f u + s))] := fun q dq n => by
        have := k q dq n
        unfold sumO addE addT addR at this
        rw [if_pos h, if_pos h] at this
        exact this
      fail "y"
      exact fun H' z => (k2 _ _ (by assumption)).e1 (by assumption) z .here
    · have X1 := Int.emod_nonneg (u - addW e t r f u - r) (b := f) (by omega)
      have X2 := Int.emod_lt_of_pos (u - addW e t r f u - r) hf
      have k2 : ∀ q dq, H q = none → RetP H Q (.ref q) [(q, lineO c.l dq f ((u - addW e t r f u - r) % f) (r + addW e t r f u + s))] := fun q dq n => by
        have := k q dq n
        unfold sumO addE addT addR at this
        rw [if_neg h, if_neg h] at this
        exact this
      fail "y"
      exact fun H' z => (k2 _ _ (by assumption)).e1 (by assumption) z .here)
theorem ok_Line_mul (T : Tx P K mg c) : OpT P w K mg base CX0 4 (Ln c) "mul" (spMul c) :=
  T.Line_mul.ok bi_Line_mul fun f fd F => fk_body F sc_Line_mul lo_Line_mul pl_Line_mul (by (conv => lhs; whnf)) (fun vs H Q E h => by obtain ⟨a, C, dx, e, t, r, n, rfl, _⟩ := h; rfl) (fun X bd ns H vs Q E h => by
    obtain ⟨a, C, dx, e, t, r, n, rfl, ha, hC, o1, l1, l2, n1, n2, k⟩ := h
    have nm := bd.nm
    have hB := T.blt
    have hK : LnK X.K C := by rw [bd.K]; exact T.ln C hC
    have d1 := ok_is_integer (P := P) (w := w) (base := base) T
    have d2 := ok_Line (P := P) (w := w) (base := base) T
    have lnl : Ln c c.l := .inl rfl
    obtain ⟨he, ht, hte, hr⟩ := id o1
    have W := neg_rng (r := r) he
    have R := mulR_rng he hr n1
    with_reducible refine wb_go (M := fun _ => False) (L := [(a, lineO C dx e t r)]) (σ := [some (.ref a), some (.int n), none]) ?e (.s1 ha) ?_
    (case e => rfl)
    fail "y"
    refine bd.gint T.most rfl rfl ?_
    fail "y"
    refine ro_mulW (m := 100) (n := 1000) (bits (10 ^ 30) (by decide +kernel) (by omega)) (by omega) (by decide) ?_
    fail "y"
    refine ro_mulW (m := 100) (n := 1000) (bits (10 ^ 30) (by decide +kernel) (by omega)) (by omega) (by decide) ?_
    fail "y"
    rw [show (n * r + (n - 1) * (-r % e)) = mulR e r n from rfl]
    fail "y"
    exact fun H' z => (k _ _ (by assumption)).e1 (by assumption) z .here)
theorem ok_Line_eq (T : Tx P K mg c) : EqT P w K mg base CX0 1 (Ln c) (spEqL c) :=
  T.Line_eq.ok bi_Line_eq fun f fd F => fk_body F sc_Line_eq lo_Line_eq pl_Line_eq (by (conv => lhs; whnf)) (fun vs H Q E h => by obtain ⟨a, C, dx, e, t, r, b, D, dy, f, u, s, rfl, _⟩ := h; rfl) (fun X bd ns H vs Q E h => by
    obtain ⟨a, C, dx, e, t, r, b, D, dy, f, u, s, rfl, ha, hb, hC, hD, k⟩ := h
    have nm := bd.nm
    have hB := T.blt
    have hK : LnK X.K C := by rw [bd.K]; exact T.ln C hC
    have hK2 : LnK X.K D := by rw [bd.K]; exact T.ln D hD
    have iD : IsK X.K D := by rw [bd.K]; exact T.isk D hD
    have i0 : Is0 X.K := by rw [bd.K]; exact T.is0
    have kD : PySem.W.kitOne X.K (.ref D) (.ref c.l) = some true := by rw [bd.K]; exact T.kl D hD
    have gl := T.gl
    have key : ∃ L, Hs H (fun _ => False) L H ∧ At L a (lineO C dx e t r) ∧ At L b (lineO D dy f u s) := by
      by_cases hab : a = b
      · subst hab
        rw [ha] at hb; cases hb
        exact ⟨_, .s1 ha, .here, .here⟩
      · exact ⟨_, .s2 hab ha hb, .here, .there .here⟩
    obtain ⟨L, hL, ia, ib⟩ := key
    with_reducible refine wb_go (M := fun _ => False) (L := L) (σ := [some (.ref a), some (.ref b)]) ?e hL ?_
    (case e => rfl)
    fail "y"
    refine rc_isiO ib hK2.cls iD i0 kD ?_
    fail "y"
    refine pick_dec (fun h1 => ?_) (fun h1 => ?_)
    · fail "y"
      refine pick_dec (fun h2 => ?_) (fun h2 => ?_)
      · fail "y"
        have := k
        unfold eqB at this
        rw [decide_eq_true h1, decide_eq_true h2, Bool.true_and, Bool.true_and] at this
        exact fun H' z => this.e0 z
      · have := k
        unfold eqB at this
        rw [decide_eq_true h1, decide_eq_false h2, Bool.true_and, Bool.false_and] at this
        exact fun H' z => this.e0 z
    · have := k
      unfold eqB at this
      rw [decide_eq_false h1, Bool.false_and] at this
      exact fun H' z => this.e0 z)
end

section
variable {P : Program} {w : World} {K : PySem.W.Frag} {mg : Str → Option Value} {base : Heap} {c : Cs3}
theorem ok_Route (T : Tx P K mg c) : MakeR P w K mg base 4 c.r (spStar 1 (spRInit c)) :=
  T.Route_init.okR fun f fd F => fk_star (ps := ["self"]) (pv := "legs") F sc_Route_init lo_Route_init pl_Route_init (by (conv => lhs; whnf)) (bs_Route_init f fd F) (fun X bd ns H vs Q E h => by
    obtain ⟨a, U, dx, ls, rfl, ha, hT, hl, ok, k⟩ := h
    have nm := bd.nm
    have hB := T.blt
    have hK : RtK X.K c.r := by rw [bd.K]; exact T.rt
    have gl := T.gl
    have d1 := ok_all_fit (P := P) (w := w) (base := base) T
    have p1 := ok_Line_every (P := P) (w := w) (base := base) T
    have n1 : 1 ≤ ls.length := by have := ok.n1; rw [List.length_map] at this; exact this
    have n2 : ls.length ≤ 60 := by have := ok.n2; rw [List.length_map] at this; exact this
    have al : Alls (Leg.o c) (ls.map (Leg.o c)) ls := .self
    with_reducible refine wb_go (M := fun x => x = a) (L := (a, .ins c.r dx []) :: (U, .tup (ls.map Leg.v)) :: ls.map (Leg.o c)) (σ := [some (.ref a), some (.ref U), none]) ?e (.anyM ha ?h1 ?h2) ?_
    (case e => rfl)
    (case h1 =>
      intro q hq
      rcases List.mem_cons.mp hq with e | hq
      · rw [e]; exact hT
      · obtain ⟨x, hx, rfl⟩ := List.mem_map.mp hq
        exact hl x hx)
    (case h2 =>
      intro q hq
      rcases List.mem_cons.mp hq with e | hq
      · rw [e]; exact ne_of hT ha (fun z => nomatch z)
      · obtain ⟨x, hx, rfl⟩ := List.mem_map.mp hq
        exact ne_of (hl x hx) ha lf_ne)
    fail "y"
    refine pick_dY (by rw [List.length_map]; omega) ?_
    refine bd.gint T.mostL rfl rfl ?_
    fail "y"
    refine pickB_eY (by rw [List.length_map]; omega) ?_
    fail "y"
    refine Body.lcF true Leg.v bd ns [("leg", 2)] ["leg"] ["leg"] (fun _ => .bl true) ⟨rfl, by decide +kernel, by decide +kernel, by decide +kernel, by decide +kernel⟩ (by decide +kernel) (by decide +kernel) (by decide +kernel) (by intro _; rfl) ?_
    fail "x"
    refine ⟨U, ls, rfl, (show At _ U (.tup _) from by fail "at"), by omega, fun x hx D acc nD B bB nB => ?_, fun D nD => ?_⟩
    · rw [show wipe [some (V.ref a), some (V.ref U), none] _ = [some (V.ref a), some (V.ref U), none] from rfl]
      have nm1 := bB.nm
      have ix : At (ls.map (Leg.o c)) x.a (lineO (c.of x.k) x.d x.e x.t x.r) := al x hx
      fail "x"
      intro B2 bB2
      have nm2 := bB2.nm
      have lx : Ln c (c.of x.k) := Ln.of c x.k
      have hK2 : LnK B2.K (c.of x.k) := by rw [bB2.K]; exact T.ln _ lx
      have iD : IsK B2.K (c.of x.k) := by rw [bB2.K]; exact T.isk _ lx
      have i0 : Is0 B2.K := by rw [bB2.K]; exact T.is0
      have kD : PySem.W.kitOne B2.K (.ref (c.of x.k)) (.ref c.l) = some true := by rw [bB2.K]; exact T.kl _ lx
      fail "x"
      refine rc_isiO (by fail "at") hK2.cls iD i0 kD ?_
      fail "x"
      exact .refl _
    · fail "x"
      refine rc_all (bs := ls.map fun _ => true) bd.calm (by rw [List.map_map]; exact .here) ?_
      rw [show (ls.map fun _ => true).all id = true by simp]
      fail "y"
      refine Body.lcF true Leg.v bd ns [("leg", 2)] ["leg"] ["leg"] (fun x => .int x.e) ⟨rfl, by decide +kernel, by decide +kernel, by decide +kernel, by decide +kernel⟩ (by decide +kernel) (by decide +kernel) (by decide +kernel) (by intro _; rfl) ?_
      fail "x"
      refine ⟨U, ls, rfl, (show At _ U (.tup _) from by fail "at"), by omega, fun x hx D2 acc nD2 B bB nB => ?_, fun D2 nD2 => ?_⟩
      · rw [show wipe [some (V.ref a), some (V.ref U), none] _ = [some (V.ref a), some (V.ref U), none] from rfl]
        have nm1 := bB.nm
        have ix : At (ls.map (Leg.o c)) x.a (lineO (c.of x.k) x.d x.e x.t x.r) := al x hx
        fail "x"
        intro B2 bB2
        have nm2 := bB2.nm
        have lx : Ln c (c.of x.k) := Ln.of c x.k
        fail "x"
        exact .refl _
      · fail "x"
        refine rs_allFit (is := ls.map (·.e)) (by rw [List.map_map]; exact .here) ?_ (by rw [List.length_map]; omega) (fun b hb => ?_)
        · intro y hy
          obtain ⟨x, hx, rfl⟩ := List.mem_map.mp hy
          have := (ok.ok _ (List.mem_map.mpr ⟨x, hx, rfl⟩)).e1
          exact this
        have hb' : b = true := hb.mpr (by
          have := ok.fit
          unfold FitsT at this
          rw [List.pairwise_map] at this ⊢
          exact this)
        subst hb'
        fail "y"
        exact fun H' z => k.e0 z (by fail "at"))
theorem ok_Route_of (T : Tx P K mg c) : CMethT P w K mg base 6 c.r "of" (spOf c) :=
  T.Route_of.ok bi_Route_of fun f fd F => fk_body F sc_Route_of lo_Route_of pl_Route_of (by (conv => lhs; whnf)) (fun vs H Q E h => by obtain ⟨G, ls, rfl, _⟩ := h; rfl) (fun X bd ns H vs Q E h => by
    obtain ⟨G, ls, rfl, hG, hl, ok, k⟩ := h
    have nm := bd.nm
    have hB := T.blt
    have d1 := ok_Route (P := P) (w := w) (base := base) T
    have n2 : ls.length ≤ 60 := by have := ok.n2; rw [List.length_map] at this; exact this
    have al : Alls (Leg.o c) (ls.map (Leg.o c)) ls := .self
    with_reducible refine wb_go (M := fun _ => False) (L := (G, .lst (ls.map Leg.v)) :: ls.map (Leg.o c)) (σ := [some (.ref c.r), some (.ref G)]) ?e (.any ?h1) ?_
    (case e => rfl)
    (case h1 =>
      intro q hq
      rcases List.mem_cons.mp hq with e | hq
      · rw [e]; exact hG
      · obtain ⟨x, hx, rfl⟩ := List.mem_map.mp hq
        exact hl x hx)
    fail "x"
    refine ke_c (pe_bltn (v := .ty "list") (bd.gl rfl) (bd.no (hB _ (by fail "mem"))) bo_list rfl) ?_
    fail "x"
    refine rc_isi (.ty "list") (fun H z => .base (.lst (z.get .here))) (kit_ty (b := "list") (r := true) (by decide +kernel)) ?_
    fail "y"
    refine ⟨_, _, rfl, .inr (by fail "at"), fun y dy ny ndy => ?_⟩
    refine rs_rinit (ls := ls) .here (.inl ny) rfl (by rw [List.length_map]; omega) (by fail "ats") ok (fun U nU => ⟨rfl, ?_⟩)
    exact fun H' z => (k y U dy ny nU).e2 (At.apart z (.there .here) .here (fun z => nomatch z)) ny nU z (.there .here) .here)
theorem ok_Route_legs (T : Tx P K mg c) : PropT P w K mg base CX0 1 (Rt c) "legs" (spLegs c) :=
  T.Route_legs.ok (fun C h => by rw [h]; exact T.rt.cls) bi_Route_legs fun f fd F => fk_body F sc_Route_legs lo_Route_legs pl_Route_legs (by (conv => lhs; whnf)) (fun vs H Q E h => by obtain ⟨a, dx, U, ls, rfl, _⟩ := h; rfl) (fun X bd ns H vs Q E h => by
    obtain ⟨a, dx, U, ls, rfl, hR, k⟩ := h
    have nm := bd.nm
    have hB := T.blt
    have hK : RtK X.K c.r := by rw [bd.K]; exact T.rt
    with_reducible refine wb_go (M := fun _ => False) (L := (a, routeO c.r dx U) :: (U, .tup (ls.map Leg.v)) :: ls.map (Leg.o c)) (σ := [some (.ref a)]) ?e hR.any ?_
    (case e => rfl)
    fail "x"
    refine rc_listT (by fail "at") ?_
    intro q nq
    exact fun H' z => (k q nq).e1 nq z .here)
theorem ok_Route_len (T : Tx P K mg c) : LenT P w K mg base 1 (Rt c) (spRLen c) :=
  T.Route_len.ok bi_Route_len fun f fd F => fk_body F sc_Route_len lo_Route_len pl_Route_len (by (conv => lhs; whnf)) (fun vs H Q E h => by obtain ⟨a, dx, U, ls, rfl, _⟩ := h; rfl) (fun X bd ns H vs Q E h => by
    obtain ⟨a, dx, U, ls, rfl, hR, k⟩ := h
    have nm := bd.nm
    have hB := T.blt
    have hK : RtK X.K c.r := by rw [bd.K]; exact T.rt
    with_reducible refine wb_go (M := fun _ => False) (L := (a, routeO c.r dx U) :: (U, .tup (ls.map Leg.v)) :: ls.map (Leg.o c)) (σ := [some (.ref a)]) ?e hR.any ?_
    (case e => rfl)
    fail "x"
    rw [List.length_map]
    exact fun H' z => k.e0 z)
theorem ok_Route_call (T : Tx P K mg c) : CallT P w K mg base CX0 3 (Rt c) (spRCall c endT) :=
  T.Route_call.ok bi_Route_call fun f fd F => fk_body F sc_Route_call lo_Route_call pl_Route_call (by (conv => lhs; whnf)) (fun vs H Q E h => by obtain ⟨a, dx, U, ls, p, rfl, _⟩ := h; rfl) (fun X bd ns H vs Q E h => by
    obtain ⟨a, dx, U, ls, p, rfl, hR, k⟩ := h
    have nm := bd.nm
    have hB := T.blt
    have hK : RtK X.K c.r := by rw [bd.K]; exact T.rt
    have d1 := ok_Line_call (P := P) (w := w) (base := base) T
    have al : Alls (Leg.o c) (ls.map (Leg.o c)) ls := .self
    with_reducible refine wb_go (M := fun _ => False) (L := (a, routeO c.r dx U) :: (U, .tup (ls.map Leg.v)) :: ls.map (Leg.o c)) (σ := [some (.ref a), some (.int p), none]) ?e hR.any ?_
    (case e => rfl)
    refine kb_seq (ks_for bd.own bd.calm (by intro _; rfl) ?_)
    refine ki_tup ?_
    fail "x"
    refine ⟨U, _, rfl, by fail "at", fun J wk => ⟨_, _, _, fun i σ L => ∃ (o : Option V), L = (a, routeO c.r dx U) :: (U, .tup (ls.map Leg.v)) :: ls.map (Leg.o c) ∧ σ = [some (.ref a), some (.int (endT ((ls.map Leg.n).take i) p)), o], wk, ⟨none, rfl, rfl⟩, ?_, ?_, ?_⟩⟩
    · rintro i σ L hi ⟨o, rfl, rfl⟩
      exact .there .here
    · rintro i x σ L L' hi ⟨o, rfl, rfl⟩ ⟨rfl, hx⟩
      rw [List.getElem?_map] at hx
      obtain ⟨y, hy, rfl⟩ := Option.map_eq_some_iff.mp hx
      have ym := List.mem_of_getElem? hy
      have iy : At (ls.map (Leg.o c)) y.a (lineO (c.of y.k) y.d y.e y.t y.r) := al y ym
      have ly : Ln c (c.of y.k) := Ln.of c y.k
      have ye : 0 < y.e := (hR.ok.ok _ (List.mem_map.mpr ⟨y, ym, rfl⟩)).e1
      fail "x"
      refine kb_nil (.refl _) ⟨some (.ref y.a), rfl, ?_⟩
      have hn : (ls.map Leg.n)[i]? = some y.n := by rw [List.getElem?_map, hy]; rfl
      rw [take_snoc hn, endT_app]
      rfl
    · rintro σ L ⟨o, rfl, rfl⟩
      rw [List.take_of_length_le (by rw [List.length_map, List.length_map]; exact Nat.le_refl _)]
      fail "y"
      exact fun H' z => k.e0 z)
theorem ok_Route_line (T : Tx P K mg c) : MethT P w K mg base CX0 5 (Rt c) "line" (spRLine c) :=
  T.Route_line.ok (fun C h => by rw [h]; exact T.rt.cls) bi_Route_line fun f fd F => fk_body F sc_Route_line lo_Route_line pl_Route_line (by (conv => lhs; whnf)) (fun vs H Q E h => by obtain ⟨a, dx, U, ls, rfl, _⟩ := h; rfl) (fun X bd ns H vs Q E h => by
    obtain ⟨a, dx, U, ls, rfl, hR, k⟩ := h
    have nm := bd.nm
    have hB := T.blt
    have hK : RtK X.K c.r := by rw [bd.K]; exact T.rt
    have d1 := ok_Line_add (P := P) (w := w) (base := base) T
    have d2 := ok_Line (P := P) (w := w) (base := base) T
    have lnl : Ln c c.l := .inl rfl
    have al : Alls (Leg.o c) (ls.map (Leg.o c)) ls := .self
    with_reducible refine wb_go (M := fun _ => False) (L := (a, routeO c.r dx U) :: (U, .tup (ls.map Leg.v)) :: ls.map (Leg.o c)) (σ := [some (.ref a), none, none]) ?e hR.any ?_
    (case e => rfl)
    fail "1"
    fail "x"
    rename_i q0 dq0 nq0 ndq0
    refine kb_sub (L' := (q0, lineO c.l dq0 1 0 0) :: (a, routeO c.r dx U) :: (U, .tup (ls.map Leg.v)) :: ls.map (Leg.o c)) (.cons₂ _ (.cons _ (.refl _))) ?_
    refine kb_seq (ks_for bd.own bd.calm (by intro _; rfl) ?_)
    refine ki_tup ?_
    fail "x"
    refine ⟨U, _, rfl, by fail "at", fun J wk => ⟨_, _, _, fun i σ L => ∃ (q dq : Addr) (o : Option V), H q = none ∧ L = (q, joinO c dq ((ls.map Leg.n).take i)) :: (a, routeO c.r dx U) :: (U, .tup (ls.map Leg.v)) :: ls.map (Leg.o c) ∧ σ = [some (.ref a), some (.ref q), o], wk, ⟨q0, dq0, none, nq0, rfl, rfl⟩, ?_, ?_, ?_⟩⟩
    · rintro i σ L hi ⟨q, dq, o, nq, rfl, rfl⟩
      exact .there (.there .here)
    · rintro i x σ L L' hi ⟨q, dq, o, nq, rfl, rfl⟩ ⟨rfl, hx⟩
      rw [List.getElem?_map] at hx
      obtain ⟨y, hy, rfl⟩ := Option.map_eq_some_iff.mp hx
      have ym := List.mem_of_getElem? hy
      have iy : At (ls.map (Leg.o c)) y.a (lineO (c.of y.k) y.d y.e y.t y.r) := al y ym
      have ly : Ln c (c.of y.k) := Ln.of c y.k
      have yo := hR.ok.ok _ (List.mem_map.mpr ⟨y, ym, rfl⟩)
      have hn : (ls.map Leg.n)[i]? = some y.n := by rw [List.getElem?_map, hy]; rfl
      have st : List.Sublist ((ls.map Leg.n).take i) (ls.map Leg.n) := List.take_sublist _ _
      have o1 := join_ok (fun x hx => hR.ok.ok x (st.subset hx)) (hR.ok.fit.sublist st)
      have ft := fits_join (y := y.n) (fun x hx => hR.ok.ok x (st.subset hx)) (by rw [← take_snoc hn]; exact hR.ok.fit.sublist (List.take_sublist _ _))
      fail "x"
      refine ro_sum bd d1 rfl .here (by fail "at") lnl ly (t3_lok o1.ok) (t3_lok yo) ft (fun q2 dq2 nq2 => ?_)
      fail "x"
      refine kb_nil (.cons₂ _ (.cons _ (.refl _))) ⟨q2, dq2, _, nq2, ?_, rfl⟩
      rw [take_snoc hn, joinO_snoc]
    · rintro σ L ⟨q, dq, o, nq, rfl, rfl⟩
      rw [List.take_of_length_le (by rw [List.length_map, List.length_map]; exact Nat.le_refl _)]
      fail "y"
      exact fun H' z => (k q dq nq).e1 nq z .here)
theorem ok_Route_add (T : Tx P K mg c) : OpT P w K mg base CX0 6 (Rt c) "add" (spRAdd c) :=
  T.Route_add.ok bi_Route_add fun f fd F => fk_body F sc_Route_add lo_Route_add pl_Route_add (by (conv => lhs; whnf)) (fun vs H Q E h => by obtain ⟨a, dx, U, ls, b, dy, W, ms, rfl, _⟩ := h; rfl) (fun X bd ns H vs Q E h => by
    obtain ⟨a, dx, U, ls, b, dy, W, ms, rfl, h1, h2, ok, k⟩ := h
    have nm := bd.nm
    have hB := T.blt
    have hK : RtK X.K c.r := by rw [bd.K]; exact T.rt
    have d1 := ok_Route (P := P) (w := w) (base := base) T
    have hRL : RtL c ((a, routeO c.r dx U) :: (U, .tup (ls.map Leg.v)) :: (b, routeO c.r dy W) :: (W, .tup (ms.map Leg.v)) :: (ls.map (Leg.o c) ++ ms.map (Leg.o c))) a dx U ls := ⟨.here, .there .here, .there (.there (.there (.there (.app_l .self)))), h1.ok⟩
    have hRM : RtL c ((a, routeO c.r dx U) :: (U, .tup (ls.map Leg.v)) :: (b, routeO c.r dy W) :: (W, .tup (ms.map Leg.v)) :: (ls.map (Leg.o c) ++ ms.map (Leg.o c))) b dy W ms := ⟨.there (.there .here), .there (.there (.there .here)), .there (.there (.there (.there (.app_r .self)))), h2.ok⟩
    with_reducible refine wb_go (M := fun _ => False) (L := (a, routeO c.r dx U) :: (U, .tup (ls.map Leg.v)) :: (b, routeO c.r dy W) :: (W, .tup (ms.map Leg.v)) :: (ls.map (Leg.o c) ++ ms.map (Leg.o c))) (σ := [some (.ref a), some (.ref b), none]) ?e (.any ?h1) ?_
    (case e => rfl)
    (case h1 =>
      intro q hq
      rcases List.mem_cons.mp hq with e | hq
      · rw [e]; exact h1.o
      rcases List.mem_cons.mp hq with e | hq
      · rw [e]; exact h1.t
      rcases List.mem_cons.mp hq with e | hq
      · rw [e]; exact h2.o
      rcases List.mem_cons.mp hq with e | hq
      · rw [e]; exact h2.t
      rcases List.mem_append.mp hq with hq | hq
      · obtain ⟨x, hx, rfl⟩ := List.mem_map.mp hq; exact h1.l x hx
      · obtain ⟨x, hx, rfl⟩ := List.mem_map.mp hq; exact h2.l x hx)
    have iR : IsK X.K c.r := by rw [bd.K]; exact T.isr
    have i0 : Is0 X.K := by rw [bd.K]; exact T.is0
    have kR : PySem.W.kitOne X.K (.ref c.r) (.ref c.r) = some true := by rw [bd.K]; exact T.krr
    have gr := T.gr
    have n1 : ls.map Leg.v ≠ [] := fun z => h1.ok.ne (by rw [List.map_eq_nil_iff.mp z]; rfl)
    have n2 : ms.map Leg.v ≠ [] := fun z => h2.ok.ne (by rw [List.map_eq_nil_iff.mp z]; rfl)
    have l2 : ls.length + ms.length ≤ 60 := by have := ok.n2; rw [List.length_append, List.length_map, List.length_map] at this; exact this
    fail "y"
    refine rc_isiO (by fail "at") hK.cls iR i0 kR ?_
    fail "y"
    refine ro_catT (by fail "at") (by fail "at") n1 n2 (by rw [List.length_map, List.length_map]; omega) (fun W2 nW2 => ?_)
    fail "y"
    refine ⟨W2, _, rfl, .inl .here, fun y dy2 ny ndy => ?_⟩
    refine rs_rinit (ls := ls ++ ms) .here (.inl ny) (by rw [List.map_append]) (by rw [List.length_append, List.length_map, List.length_map]; omega) (.there (.there (.there (.there (.there (.there (.there (.two (.app_l .self) (.app_r .self))))))))) (by rw [List.map_append]; exact ok) (fun U2 nU2 => ⟨rfl, ?_⟩)
    rw [← List.map_append]
    exact fun H' z => (k y U2 dy2 ny nU2).e2 (At.apart z (.there .here) .here (fun z => nomatch z)) ny nU2 z (.there .here) .here)
end

/-! ### the tape -/
def spTape (K : PySem.W.Frag) : Sp := fun vs H Q _ => ∃ (s : Addr) (ns : List Int) (k : Int), vs = [.ref s, .int k] ∧ SqL K H s (ns.map V.int) ∧ 0 ≤ k ∧ k ≤ 1000 ∧
  ∀ q a b, H q = none → 0 ≤ a → 0 ≤ b → b ≤ 1000000000000000000000000000000000000000000 → RetP H Q (.ref q) [(q, feedO a b 0)]
def spNext : Sp := fun vs H Q _ => ∃ (f : Addr) (a b c n : Int), vs = [.ref f, .int n] ∧ H f = some (feedO a b c) ∧ 0 ≤ a ∧ 0 ≤ b ∧ b ≤ 1000000000000000000000000000000000000000000 ∧ 0 ≤ c ∧ c ≤ 1000000000000000000000000000000 ∧ 0 < n ∧ n ≤ 1000000000000000000000000000000000000000000000000000000000000 ∧
  ∀ (r a' c' : Int), 0 ≤ r → r < n → 0 ≤ a' → c ≤ c' → c' ≤ c + 1 → RetC H Q (.int r) f (feedO a' b c') []
section
variable {H0 : Hp} {M : Addr → Prop} {L : LL} {Q : V → LL → Prop} {f : Addr} {a b c n : Int} {E : XK} {g : HO → LL}
theorem rs_tape {K : PySem.W.Frag} {s : Addr} {ns : List Int} {k : Int} (sq : SqL K H0 s (ns.map V.int)) (m : ¬ M s) (h0 : 0 ≤ k) (h1 : k ≤ 1000) (q : ∀ p a b, H0 p = none → 0 ≤ a → 0 ≤ b → b ≤ 1000000000000000000000000000000000000000000 → Q (.ref p) ((p, feedO a b 0) :: L)) : rs H0 M (spTape K) E [.ref s, .int k] L Q :=
  fun H z => ⟨s, ns, k, rfl, z.seq sq m, h0, h1, fun p a b n h h2 h3 => z.pp (q p a b (z.fresh n) h h2 h3)⟩
theorem rs_next (s : Spot L f (feedO a b c) g) (cc : H0 f = none ∨ M f) (ha : 0 ≤ a) (hb : 0 ≤ b) (hb1 : b ≤ 1000000000000000000000000000000000000000000) (hc : 0 ≤ c) (hc1 : c ≤ 1000000000000000000000000000000) (h0 : 0 < n) (h1 : n ≤ 1000000000000000000000000000000000000000000000000000000000000)
    (q : ∀ r a' c', 0 ≤ r → r < n → 0 ≤ a' → c ≤ c' → c' ≤ c + 1 → Q (.int r) (g (feedO a' b c'))) : rs H0 M spNext E [.ref f, .int n] L Q :=
  fun H z => ⟨f, a, b, c, n, rfl, z.at_ _ s.mem, ha, hb, hb1, hc, hc1, h0, h1, fun r a' c' h1 h2 h3 h4 h5 => z.c0 s cc (q r a' c' h1 h2 h3 h4 h5)⟩
end
def spChainT : Sp := fun vs H Q _ => ∃ (f : Addr) (a b c most : Int), vs = [.ref f, .int most] ∧ H f = some (feedO a b c) ∧ 0 ≤ a ∧ 0 ≤ b ∧ b ≤ 1000000000000000000000000000000000000000000 ∧ 0 ≤ c ∧ c ≤ 100000000000000000000000000000 ∧ 1 ≤ most ∧ most ≤ 100000000000000000000000000000000000000000000000000000000000 ∧
  ∀ q a' c' is, H q = none → 0 ≤ a' → c ≤ c' → c' ≤ c + 100 → ChainOk most is → is.length ≤ 7 → RetC H Q (.ref q) f (feedO a' b c') [(q, .lst (is.map V.int))]
theorem rs_chainT {H0 : Hp} {M : Addr → Prop} {L : LL} {Q : V → LL → Prop} {f : Addr} {a b c most : Int} {E : XK} {g : HO → LL} (s : Spot L f (feedO a b c) g) (cc : H0 f = none ∨ M f) (ha : 0 ≤ a) (hb : 0 ≤ b) (hb1 : b ≤ 1000000000000000000000000000000000000000000) (hc : 0 ≤ c) (hc1 : c ≤ 100000000000000000000000000000) (h0 : 1 ≤ most) (h1 : most ≤ 100000000000000000000000000000000000000000000000000000000000)
    (q : ∀ p a' c' is, H0 p = none → 0 ≤ a' → c ≤ c' → c' ≤ c + 100 → ChainOk most is → is.length ≤ 7 → Q (.ref p) ((p, .lst (is.map V.int)) :: g (feedO a' b c'))) : rs H0 M spChainT E [.ref f, .int most] L Q :=
  fun H z => ⟨f, a, b, c, most, rfl, z.at_ _ s.mem, ha, hb, hb1, hc, hc1, h0, h1, fun p a' c' is n h1 h2 h3 h4 h5 => z.cc s cc (q p a' c' is (z.fresh n) h1 h2 h3 h4 h5)⟩
/-- a drawn row: headway, first, ride -/
structure TRow where
  a : Addr
  e : Int
  t : Int
  r : Int
abbrev TRow.v (x : TRow) : V := .ref x.a
abbrev tupO (e t r : Int) : HO := .tup [.int e, .int t, .int r]
abbrev TRow.o (x : TRow) : Addr × HO := (x.a, tupO x.e x.t x.r)
abbrev TRow.n (x : TRow) : T3 := (x.e, x.t, x.r)
structure TRowsOk (most : Int) (is : List Int) (rs : List TRow) : Prop where
  ok : ∀ x ∈ rs, 1 ≤ x.e ∧ x.e ≤ most ∧ 0 ≤ x.t ∧ x.t < x.e ∧ 0 ≤ x.r ∧ x.r ≤ 1000000000000000000000000000000000000000000000000000000000000
  mem : ∀ x ∈ rs, x.e = 1 ∨ x.e ∈ is
theorem TRowsOk.more {most : Int} {is : List Int} {rs : List TRow} (h : TRowsOk most is rs) {x : TRow} (k : 1 ≤ x.e ∧ x.e ≤ most ∧ 0 ≤ x.t ∧ x.t < x.e ∧ 0 ≤ x.r ∧ x.r ≤ 1000000000000000000000000000000000000000000000000000000000000) (m : x.e = 1 ∨ x.e ∈ is) : TRowsOk most is (rs ++ [x]) :=
  ⟨fun y hy => (List.mem_append.mp hy).elim (h.ok y) fun z => by rw [List.mem_singleton.mp z]; exact k, fun y hy => (List.mem_append.mp hy).elim (h.mem y) fun z => by rw [List.mem_singleton.mp z]; exact m⟩
def spRowsT : Sp := fun vs H Q _ => ∃ (f : Addr) (a b c many most : Int), vs = [.ref f, .int many, .int most] ∧ H f = some (feedO a b c) ∧ 0 ≤ a ∧ 0 ≤ b ∧ b ≤ 1000000000000000000000000000000000000000000 ∧ 0 ≤ c ∧ c ≤ 10000000000000000000000000000 ∧ 1 ≤ many ∧ many ≤ 900 ∧ 1 ≤ most ∧ most ≤ 100000000000000000000000000000000000000000000000000000000000 ∧
  ∀ q a' c' is rs, H q = none → 0 ≤ a' → c ≤ c' → c' ≤ c + 10000 → ChainOk most is → TRowsOk most is rs → (rs.length : Int) = many → RetC H Q (.ref q) f (feedO a' b c') ((q, .lst (rs.map TRow.v)) :: rs.map TRow.o)
theorem rs_rowsT {H0 : Hp} {M : Addr → Prop} {L : LL} {Q : V → LL → Prop} {f : Addr} {a b c many most : Int} {E : XK} {g : HO → LL} (s : Spot L f (feedO a b c) g) (cc : H0 f = none ∨ M f) (ha : 0 ≤ a) (hb : 0 ≤ b) (hb1 : b ≤ 1000000000000000000000000000000000000000000) (hc : 0 ≤ c) (hc1 : c ≤ 10000000000000000000000000000) (n0 : 1 ≤ many) (n1 : many ≤ 900) (h0 : 1 ≤ most) (h1 : most ≤ 100000000000000000000000000000000000000000000000000000000000)
    (q : ∀ p a' c' is rs, H0 p = none → 0 ≤ a' → c ≤ c' → c' ≤ c + 10000 → ChainOk most is → TRowsOk most is rs → (rs.length : Int) = many → Q (.ref p) ((p, .lst (rs.map TRow.v)) :: (rs.map TRow.o ++ g (feedO a' b c')))) : rs H0 M spRowsT E [.ref f, .int many, .int most] L Q :=
  fun H z => ⟨f, a, b, c, many, most, rfl, z.at_ _ s.mem, ha, hb, hb1, hc, hc1, n0, n1, h0, h1, fun p a' c' is rs n h1 h2 h3 h4 h5 h6 => z.cc s cc (q p a' c' is rs (z.fresh n) h1 h2 h3 h4 h5 h6)⟩

local macro_rules | `(tactic| fail "nx") => `(tactic| ((with_reducible apply rs_next); (fail "spot"); (fail "mark"); (omega); (omega); (omega); (omega); (omega); (omega); (omega); (intro _ _ _ _ _ _ _ _)))
local macro_rules | `(tactic| fail "x") => `(tactic| repeat first | fail "1" | fail "nx")
section
variable {P : Program} {w : World} {K : PySem.W.Frag} {mg : Str → Option Value} {base : Heap} {c : Cs3}
theorem ok_tape (T : Tx P K mg c) : DefT P w K mg base CX0 1 "_law_tape" (spTape K) :=
  T.tape.ok bi_tape fun f fd F => fk_body F sc_tape lo_tape pl_tape (by (conv => lhs; whnf)) (fun vs H Q E h => by obtain ⟨s, ns, k, rfl, _⟩ := h; rfl) (fun X bd ns H vs Q E h => by
    obtain ⟨s, ns, k, rfl, sq, hk, hk1, r⟩ := h
    have nm := bd.nm
    have hB := T.blt
    rw [← bd.K] at sq
    with_reducible refine wb_go (M := fun _ => False) (L := []) (σ := [some (.ref s), some (.int k), none]) ?e .s0 ?_
    (case e => rfl)
    fail "y"
    refine rc_lenR sq id ?_
    fail "y"
    refine pickB_dec (fun h => ?_) (fun h => ?_)
    · fail "y"
      refine ix_scrI sq id hk (by simpa using h) (fun x => ?_)
      fail "y"
      exact fun H' z => (r _ _ _ (by assumption) (by split <;> omega) (by omega) (by omega)).e1 (by assumption) z .here
    · fail "y"
      exact fun H' z => (r _ _ _ (by assumption) (by split <;> omega) (by omega) (by omega)).e1 (by assumption) z .here)
theorem ok_next (T : Tx P K mg c) : DefT P w K mg base CX0 1 "_law_next" spNext :=
  T.next.ok bi_next fun f fd F => fk_body F sc_next lo_next pl_next (by (conv => lhs; whnf)) (fun vs H Q E h => by obtain ⟨f, a, b, c, n, rfl, _⟩ := h; rfl) (fun X bd ns H vs Q E h => by
    obtain ⟨f, a, b, c, n, rfl, hf, ha, hb, hb1, hc, hc1, hn, hn1, k⟩ := h
    have nm := bd.nm
    have hB := T.blt
    have hbn := huge_bits hn hn1
    with_reducible refine wb_go (M := fun x => x = f) (L := [(f, feedO a b c)]) (σ := [some (.ref f), some (.int n), none, none]) ?e (.m1 hf) ?_
    (case e => rfl)
    fail "x"
    refine pickB_dec (fun h0 => ?_) (fun h0 => ?_)
    · fail "x"
      refine ro_div hn hbn (by decide) ?_
      fail "x"
      exact fun H' z => (k _ _ _ (Int.emod_nonneg _ (by omega)) (Int.emod_lt_of_pos _ hn) (Int.ediv_nonneg ha (by omega)) (Int.le_refl _) (by omega)).e0 z .here
    · fail "y"
      refine ro_powW3 (n := 200) (bits (10 ^ 50) (by decide +kernel) (by omega)) (by decide) ?_
      fail "x"
      generalize (b + 2147483659 * (c + 1)) * (b + 2147483659 * (c + 1)) * (b + 2147483659 * (c + 1)) = y
      refine ro_powW3 (n := 250) (bits (10 ^ 70) (by decide +kernel) (by omega)) (by decide) ?_
      fail "x"
      exact fun H' z => (k _ _ _ (Int.emod_nonneg _ (by omega)) (Int.emod_lt_of_pos _ hn) ha (by omega) (by omega)).e0 z .here)
theorem map_snoc (xs : List Int) (x : Int) : (xs ++ [x]).map V.int = xs.map V.int ++ [.int x] := by simp
theorem ok_chain (T : Tx P K mg c) : DefT P w K mg base CX0 2 "_law_chain" spChainT :=
  T.chain.ok bi_chain fun f fd F => fk_body F sc_chain lo_chain pl_chain (by (conv => lhs; whnf)) (fun vs H Q E h => by obtain ⟨f, a, b, c, n, rfl, _⟩ := h; rfl) (fun X bd ns H vs Q E h => by
    obtain ⟨f, a, b, c, most, rfl, hf, ha, hb, hb1, hc, hc1, hm0, hm1, k⟩ := h
    have nm := bd.nm
    have hB := T.blt
    have d1 := ok_next (P := P) (w := w) (base := base) T
    with_reducible refine wb_go (M := fun x => x = f) (L := [(f, feedO a b c)]) (σ := [some (.ref f), some (.int most), none, none, none]) ?e (.m1 hf) ?_
    (case e => rfl)
    fail "x"
    refine ix_I (fun x => 1 ≤ x ∧ x ≤ 1000000000000000000000000000000000000000000000000000000000000) ?_
    fail "ixI"
    rename_i x0 h0
    fail "x"
    obtain ⟨y0, ey, hy0, hy1⟩ : ∃ y, (if most < x0 then most else x0) = y ∧ 1 ≤ y ∧ y ≤ most := ⟨_, rfl, by split <;> omega, by split <;> omega⟩
    rw [ey]
    refine kb_sub (L' := [(_, .lst [_]), (f, _)]) (by fail "sub") ?_
    refine kb_seq (ks_for bd.own bd.calm (by intro _; rfl) ?_)
    refine ki_range1 (bd.gl rfl) (bd.no (hB _ (by fail "mem"))) rfl ?_
    fail "x"
    refine ⟨by omega, by omega, fun J wk => ⟨_, _, _, fun i σ L => ∃ (q : Addr) (a' c' : Int) (xs : List Int) (x : Int) (t m : Option V), H q = none ∧ L = [(q, .lst ((xs ++ [x]).map V.int)), (f, feedO a' b c')] ∧ 0 ≤ a' ∧ c ≤ c' ∧ c' ≤ c + 3 + 2 * (i : Int) ∧ ChainOk most (xs ++ [x]) ∧ xs.length ≤ i ∧ σ = [some (.ref f), some (.int most), some (.ref q), t, m], wk, ?_, fun _ _ _ _ _ => trivial, ?_, ?_⟩⟩
    · exact ⟨_, _, _, [], y0, none, none, by assumption, rfl, by assumption, by omega, by omega, .one hy0 hy1, Nat.le_refl _, rfl⟩
    · rintro i x σ L L' hi ⟨q, a', c', xs, y, t, m, nq, rfl, ha', hc2, hc3, ok, hl, rfl⟩ ⟨rfl, rfl⟩
      have hy := ok.rng y (by simp)
      have hi7 : i < 6 := by simpa using hi
      fail "1"
      refine kb_cut (fun σ L => ∃ a2 c2 mo, σ = [some (.ref f), some (.int most), some (.ref q), some (.int i), some (.int mo)] ∧ Sub [(q, .lst ((xs ++ [y]).map V.int)), (f, feedO a2 b c2)] L ∧ 0 ≤ a2 ∧ c ≤ c2 ∧ c2 ≤ c + 5 + 2 * (i : Int) ∧ 1 ≤ mo ∧ mo ≤ 1000000000000000000000000000000000000000000000000000000000000) ?_ ?_
      · fail "x"
        refine ix_last ?_
        fail "aq"
        refine ⟨_, _, congrArg HO.lst (map_snoc _ _), ?_⟩
        fail "x"
        refine ro_div (n := 200) (by omega) (bits (10 ^ 59) (by decide +kernel) (by omega)) (by decide) ?_
        obtain ⟨d, ed, hd0, hd1⟩ : ∃ d, most / y = d ∧ 0 ≤ d ∧ d ≤ most := ⟨_, rfl, Int.ediv_nonneg (by omega) (by omega), Int.ediv_le_self _ (by omega)⟩
        rw [ed]
        fail "x"
        refine ix_I (fun x => 1 ≤ x ∧ x ≤ 1000000000000000000000000000000000000000000000000000000000000) ?_
        fail "ixI"
        fail "x"
        exact ⟨_, _, _, rfl, by fail "sub", by assumption, by omega, by omega, by omega, by omega⟩
      rintro σ L ⟨a2, c2, mo, rfl, sb, ha2, hc4, hc5, hm1, hm3⟩
      refine kb_sub sb ?_
      fail "x"
      refine ix_last ?_
      fail "aq"
      refine ⟨_, _, congrArg HO.lst (map_snoc _ _), ?_⟩
      fail "x"
      have hmul : ∀ {L Q}, Q (.int (y * mo)) L → ro X H (fun x => x = f) (binaryOp .Mult) (.int y) (.int mo) L Q := fun h => ro_mulW (m := 200) (n := 210) (bits (10 ^ 59) (by decide +kernel) (by omega)) (bits (10 ^ 60) (by decide +kernel) (by omega)) (by decide) h
      refine hmul ?_
      fail "x"
      refine pickB_dec (fun hle => ?_) (fun hle => ?_)
      · fail "x"
        refine ix_last ?_
        fail "aq"
        refine ⟨_, _, congrArg HO.lst (map_snoc _ _), ?_⟩
        fail "x"
        refine hmul ?_
        refine ⟨_, _, by fail "spot", .inl nq, by rw [List.length_map, List.length_append]; exact Nat.lt_of_le_of_lt (show xs.length + 1 ≤ 10 by omega) (szl1000 rfl), ?_⟩
        rw [show List.map V.int (xs ++ [y]) ++ [V.int (y * mo)] = List.map V.int ((xs ++ [y]) ++ [y * mo]) by rw [List.map_append (l₁ := xs ++ [y])]; rfl]
        exact kb_nil' (kb_nil (by fail "sub") ⟨q, _, _, xs ++ [y], y * mo, _, _, nq, rfl, ha2, hc4, by omega, ok.more hm1 hle, by rw [List.length_append]; simp; omega, rfl⟩)
      · exact kb_nil' (kb_nil (by fail "sub") ⟨q, _, _, xs, y, _, _, nq, rfl, ha2, hc4, by omega, ok, by omega, rfl⟩)
    · rintro σ L ⟨q, a', c', xs, y, t, m, nq, rfl, ha', hc2, hc3, ok, hl, rfl⟩
      fail "x"
      exact fun H' z => (k _ _ _ _ nq ha' hc2 (by omega) ok (by rw [List.length_append]; simp; omega)).e1 nq z (.there .here) .here)
theorem ok_rows (T : Tx P K mg c) : DefT P w K mg base CX0 3 "_law_rows" spRowsT :=
  T.rows.ok bi_rows fun f fd F => fk_body F sc_rows lo_rows pl_rows (by (conv => lhs; whnf)) (fun vs H Q E h => by obtain ⟨f, a, b, c, m, n, rfl, _⟩ := h; rfl) (fun X bd ns H vs Q E h => by
    obtain ⟨f, a, b, c, many, most, rfl, hf, ha, hb, hb1, hc, hc1, hn0, hn1, hm0, hm1, k⟩ := h
    have nm := bd.nm
    have hB := T.blt
    have d1 := ok_next (P := P) (w := w) (base := base) T
    have d2 := ok_chain (P := P) (w := w) (base := base) T
    with_reducible refine wb_go (M := fun x => x = f) (L := [(f, feedO a b c)]) (σ := [some (.ref f), some (.int many), some (.int most), none, none, none, none, none]) ?e (.m1 hf) ?_
    (case e => rfl)
    fail "x"
    refine rs_chainT (by fail "spot") (by fail "mark") ha hb hb1 hc (by omega) hm0 hm1 (fun ch a2 c2 is nch ha2 h1 h2 ok hl => ?_)
    obtain ⟨xs, y, rfl⟩ : ∃ xs y, is = xs ++ [y] := by
      rcases List.eq_nil_or_concat is with e | ⟨xs, y, e⟩
      · exact absurd e ok.ne
      · exact ⟨xs, y, by rw [e, List.concat_eq_append]⟩
    have hlm : ((xs ++ [y]).map V.int).length = (xs ++ [y]).length := List.length_map _
    have hl0 : 0 < (xs ++ [y]).length := List.length_pos_iff.mpr ok.ne
    have hy := ok.rng y (by simp)
    fail "x"
    rename_i fo nfo
    refine kb_seq (ks_for bd.own bd.calm (by intro _; rfl) ?_)
    refine ki_range1 (bd.gl rfl) (bd.no (hB _ (by fail "mem"))) rfl ?_
    fail "x"
    refine ⟨by omega, by omega, fun J wk => ⟨_, _, _, fun i σ L => ∃ (a' c' : Int) (rs' : List TRow) (o1 o2 o3 : Option V), L = (fo, .lst (rs'.map TRow.v)) :: (ch, .lst ((xs ++ [y]).map V.int)) :: (f, feedO a' b c') :: rs'.map TRow.o ∧ 0 ≤ a' ∧ c ≤ c' ∧ c' ≤ c + 100 + 10 * (i : Int) ∧ TRowsOk most (xs ++ [y]) rs' ∧ (∀ x ∈ rs', H x.a = none) ∧ rs'.length = i ∧ σ = [some (.ref f), some (.int many), some (.int most), some (.ref ch), some (.ref fo), o1, o2, o3], wk, ?_, fun _ _ _ _ _ => trivial, ?_, ?_⟩⟩
    · exact ⟨_, _, [], none, none, none, rfl, ha2, by omega, by omega, ⟨by simp, by simp⟩, by simp, rfl, rfl⟩
    · rintro i x σ L L' hi ⟨a', c', rs', o1, o2, o3, rfl, ha', hc2, hc3, hr, hf', hrl, rfl⟩ ⟨rfl, rfl⟩
      have hiN : (i : Int) < many := by omega
      fail "x"
      refine ix_I (fun x => 1 ≤ x ∧ x ≤ most ∧ (x = 1 ∨ x ∈ xs ++ [y])) ?_
      fail "aq"
      refine ⟨xs ++ [y], rfl, by omega, by omega, fun v hv => ⟨(ok.rng v hv).1, (ok.rng v hv).2, .inr hv⟩, ?_⟩
      rintro w1 ⟨u1, u2, u3⟩
      fail "x"
      refine ix_last ?_
      fail "aq"
      refine ⟨_, _, congrArg HO.lst (map_snoc _ _), ?_⟩
      fail "x"
      refine ix_I (fun x => 1 ≤ x ∧ x ≤ most ∧ (x = 1 ∨ x ∈ xs ++ [y])) ?_
      fail "aq"
      refine ⟨[w1, y, 1], rfl, by omega, by simp only [List.length_cons, List.length_nil]; omega, ?_, ?_⟩
      · intro v hv
        simp only [List.mem_cons, List.not_mem_nil, or_false] at hv
        rcases hv with rfl | rfl | rfl
        · exact ⟨u1, u2, u3⟩
        · exact ⟨hy.1, hy.2, .inr (by simp)⟩
        · exact ⟨by omega, by omega, .inl rfl⟩
      rintro hw ⟨v1, v2, v3⟩
      fail "x"
      rename_i r1 a1' c1' i1 i2 i3 i4 i5 p1 np1 r0 a0' c0' i6 i7 i8 i9 i10
      have hw4 : 0 ≤ hw * r1 ∧ hw * r1 ≤ 3 * hw := by
        have : r1 = 0 ∨ r1 = 1 ∨ r1 = 2 ∨ r1 = 3 := by omega
        rcases this with rfl | rfl | rfl | rfl <;> omega
      generalize hw * r1 = hr1 at hw4
      refine ix_I (fun x => 0 ≤ x ∧ x ≤ 1000000000000000000000000000000000000000000000000000000000000) ?_
      fail "ixI"
      rename_i ri hri
      fail "x"
      rename_i t0 a3 c3 j1 j2 j3 j4 j5 tp ntp
      refine ⟨_, _, by fail "spot", .inl nfo, by rw [List.length_map]; exact Nat.lt_of_le_of_lt (show rs'.length ≤ 1000 by omega) (szl1000 rfl), ?_⟩
      have ox : 1 ≤ hw ∧ hw ≤ most ∧ 0 ≤ t0 ∧ t0 < hw ∧ 0 ≤ ri ∧ ri ≤ 1000000000000000000000000000000000000000000000000000000000000 := ⟨v1, v2, j1, j2, hri.1, hri.2⟩
      have em : rs'.map TRow.v ++ [V.ref tp] = (rs' ++ [(⟨tp, hw, t0, ri⟩ : TRow)]).map TRow.v := by rw [List.map_append]; rfl
      have eo : (rs' ++ [(⟨tp, hw, t0, ri⟩ : TRow)]).map TRow.o = rs'.map TRow.o ++ [(tp, tupO hw t0 ri)] := by rw [List.map_append]; rfl
      rw [em]
      refine kb_nilP (L' := (fo, .lst ((rs' ++ [(⟨tp, hw, t0, ri⟩ : TRow)]).map TRow.v)) :: (ch, .lst ((xs ++ [y]).map V.int)) :: (f, feedO a3 b c3) :: (rs' ++ [(⟨tp, hw, t0, ri⟩ : TRow)]).map TRow.o) (L'' := (tp, tupO hw t0 ri) :: (fo, .lst ((rs' ++ [(⟨tp, hw, t0, ri⟩ : TRow)]).map TRow.v)) :: (ch, .lst ((xs ++ [y]).map V.int)) :: (f, feedO a3 b c3) :: rs'.map TRow.o) ?_ (.cons₂ _ (.cons _ (.cons _ (.refl _)))) ⟨_, _, _, _, _, _, rfl, j3, by omega, by omega, hr.more (x := ⟨tp, hw, t0, ri⟩) ox v3, fun x hx => ?_, ?_, rfl⟩
      · rw [eo]
        exact List.perm_append_singleton (tp, tupO hw t0 ri) ((fo, .lst ((rs' ++ [(⟨tp, hw, t0, ri⟩ : TRow)]).map TRow.v)) :: (ch, .lst ((xs ++ [y]).map V.int)) :: (f, feedO a3 b c3) :: rs'.map TRow.o)
      · rcases List.mem_append.mp hx with h | h
        · exact hf' x h
        · rw [List.mem_singleton.mp h]; exact ntp
      · rw [List.length_append, hrl]; rfl
    · rintro σ L ⟨a', c', rs', o1, o2, o3, rfl, ha', hc2, hc3, hr, hf', hrl, rfl⟩
      fail "x"
      refine fun H' z => k fo a' c' _ rs' nfo ha' hc2 (by omega) ok hr (by omega) H' ⟨fun b u e ne => z.fr b u e ne, z.get (.there (.there .here)), z.newsS (.cons₂ _ (.cons _ (.cons _ (.refl _)))) fun q hq => ?_⟩
      rcases List.mem_cons.mp hq with e | hq
      · rw [e]; exact nfo
      · obtain ⟨x, hx, rfl⟩ := List.mem_map.mp hq
        exact hf' x hx)
end

/-! ### a line of a row -/
abbrev kdT (e t r : Int) : Kd := if e = 1 ∧ 9 < r then .walk else if r = 0 ∧ 0 < t then .stop else .line
def spLineT (c : Cs3) : Sp := fun vs H Q _ => ∃ (n : Addr) (e t r : Int), vs = [.ref n] ∧ H n = some (tupO e t r) ∧ 1 ≤ e ∧ 0 ≤ t ∧ t < e ∧ 0 ≤ r ∧ ∀ q dq, H q = none → RetP H Q (.ref q) [(q, lineO (c.of (kdT e t r)) dq e t r)]
theorem rs_lineT {c : Cs3} {H0 : Hp} {M : Addr → Prop} {L : LL} {Q : V → LL → Prop} {n : Addr} {e t r : Int} {E : XK} (ia : At L n (tupO e t r)) (h1 : 1 ≤ e) (h2 : 0 ≤ t) (h3 : t < e) (h4 : 0 ≤ r) (q : ∀ p dp, H0 p = none → Q (.ref p) ((p, lineO (c.of (kdT e t r)) dp e t r) :: L)) : rs H0 M (spLineT c) E [.ref n] L Q :=
  fun H z => ⟨n, e, t, r, rfl, z.get ia, h1, h2, h3, h4, fun p dp nn => z.pp (q p dp (z.fresh nn))⟩

section
variable {P : Program} {w : World} {K : PySem.W.Frag} {mg : Str → Option Value} {base : Heap} {c : Cs3}
theorem ok_line (T : Tx P K mg c) : DefT P w K mg base CX0 5 "_law_line" (spLineT c) :=
  T.line.ok bi_line fun f fd F => fk_body F sc_line lo_line pl_line (by (conv => lhs; whnf)) (fun vs H Q E h => by obtain ⟨n, e, t, r, rfl, _⟩ := h; rfl) (fun X bd ns H vs Q E h => by
    obtain ⟨n, e, t, r, rfl, hn, h1, h2, h3, h4, k⟩ := h
    have nm := bd.nm
    have hB := T.blt
    have d1 := ok_Line (P := P) (w := w) (base := base) T
    have d2 := ok_Walk (P := P) (w := w) (base := base) T
    have d3 := ok_Stop (P := P) (w := w) (base := base) T
    have lnl : Ln c c.l := .inl rfl
    with_reducible refine wb_go (M := fun _ => False) (L := [(n, tupO e t r)]) (σ := [some (.ref n)]) ?e (.s1 hn) ?_
    (case e => rfl)
    fail "x"
    refine pickB_dec (fun he => ?_) (fun he => ?_)
    · fail "x"
      refine pickB_dec (fun h9 => ?_) (fun h9 => ?_)
      · obtain rfl : t = 0 := by omega
        subst he
        fail "y"
        exact fun H' z => (by rw [show kdT 1 0 r = .walk from if_pos ⟨rfl, h9⟩] at k; exact (k _ _ (by assumption)).e1 (by assumption) z .here)
      · obtain rfl : t = 0 := by omega
        subst he
        rw [show kdT 1 0 r = .line from (if_neg (fun z => h9 z.2)).trans (if_neg (fun z => absurd z.2 (by omega)))] at k
        fail "y"
        refine pickB_dec (fun hr => ?_) (fun hr => ?_)
        · fail "y"
          exact fun H' z => (k _ _ (by assumption)).e1 (by assumption) z .here
        · fail "y"
          exact fun H' z => (k _ _ (by assumption)).e1 (by assumption) z .here
    · have kA : kdT e t r = if r = 0 ∧ 0 < t then .stop else .line := if_neg (by omega)
      fail "y"
      refine pickB_dec (fun hr => ?_) (fun hr => ?_)
      · fail "y"
        refine pickB_dec (fun ht => ?_) (fun ht => ?_)
        · subst hr
          rw [kA, if_pos ⟨rfl, ht⟩] at k
          fail "y"
          exact fun H' z => (k _ _ (by assumption)).e1 (by assumption) z .here
        · rw [kA, if_neg (fun z => ht z.2)] at k
          fail "y"
          exact fun H' z => (k _ _ (by assumption)).e1 (by assumption) z .here
      · rw [kA, if_neg (fun z => hr z.1)] at k
        fail "y"
        exact fun H' z => (k _ _ (by assumption)).e1 (by assumption) z .here)
end

/-! ### a route of drawn rows -/
theorem TRowsOk.lok {most : Int} {is : List Int} {rs : List TRow} (h : TRowsOk most is rs) : ∀ x ∈ rs, LOk x.e x.t x.r := fun x hx => by
  obtain ⟨a, b, c, d, e, f⟩ := h.ok x hx
  exact ⟨by omega, c, d, e⟩
theorem TRowsOk.rt {most : Int} {is : List Int} {rs : List TRow} (h : TRowsOk most is rs) (c : ChainOk most is) (n1 : 1 ≤ rs.length) (n2 : rs.length ≤ 60) : RtOk (rs.map TRow.n) := by
  refine ⟨fun x hx => ?_, ?_, by rw [List.length_map]; exact n1, by rw [List.length_map]; exact n2⟩
  · obtain ⟨y, hy, rfl⟩ := List.mem_map.mp hx
    exact (h.lok y hy).t3
  · refine List.pairwise_of_forall_mem_list fun x hx y hy => ?_
    obtain ⟨u, hu, rfl⟩ := List.mem_map.mp hx
    obtain ⟨v, hv, rfl⟩ := List.mem_map.mp hy
    exact c.fit (h.mem u hu) (h.mem v hv)
abbrev MdeT (x : TRow) (y : Leg) : Prop := y.k = kdT x.e x.t x.r ∧ y.n = x.n
theorem mdeT_n {rs : List TRow} {ls : List Leg} (h : F2 MdeT rs ls) : ls.map Leg.n = rs.map TRow.n := (h.map fun _ _ e => e.2.symm).symm
theorem mdeT_rtl {c : Cs3} {L : LL} {q T dq : Addr} {rs : List TRow} {ls : List Leg} (f : F2 MdeT rs ls) (ok : RtOk (rs.map TRow.n)) : RtL c ((q, routeO c.r dq T) :: (T, .tup (ls.map Leg.v)) :: (ls.map (Leg.o c) ++ L)) q dq T ls := ⟨.here, .there .here, .there (.there (.app_l .self)), by rw [mdeT_n f]; exact ok⟩
def spRouteT (c : Cs3) : Sp := fun vs H Q _ => ∃ (R : Addr) (rs : List TRow), vs = [.ref R] ∧ H R = some (.lst (rs.map TRow.v)) ∧ (∀ x ∈ rs, H x.a = some x.o.2) ∧ RtOk (rs.map TRow.n) ∧
  ∀ q T dq ls, F2 MdeT rs ls → H q = none → H T = none → RetP H Q (.ref q) ((q, routeO c.r dq T) :: (T, .tup (ls.map Leg.v)) :: ls.map (Leg.o c))
theorem rs_routeT {c : Cs3} {H0 : Hp} {M : Addr → Prop} {L : LL} {Q : V → LL → Prop} {R : Addr} {vs : List V} {rs' : List TRow} {E : XK} (iR : At L R (.lst vs)) (ev : vs = rs'.map TRow.v) (al : Alls TRow.o L rs') (ok : RtOk (rs'.map TRow.n))
    (q : ∀ q T dq ls, F2 MdeT rs' ls → H0 q = none → H0 T = none → Q (.ref q) ((q, routeO c.r dq T) :: (T, .tup (ls.map Leg.v)) :: (ls.map (Leg.o c) ++ L))) : rs H0 M (spRouteT c) E [.ref R] L Q :=
  fun H z => ⟨R, rs', rfl, by rw [← ev]; exact z.get iR, al.get z, ok, fun w T dw ls f n1 n2 => z.pp (q w T dw ls f (z.fresh n1) (z.fresh n2))⟩

section
variable {P : Program} {w : World} {K : PySem.W.Frag} {mg : Str → Option Value} {base : Heap} {c : Cs3}
theorem ok_route (T : Tx P K mg c) : DefT P w K mg base CX0 7 "_law_route" (spRouteT c) :=
  T.route.ok bi_route fun f fd F => fk_body F sc_route lo_route pl_route (by (conv => lhs; whnf)) (fun vs H Q E h => by obtain ⟨R, rs, rfl, _⟩ := h; rfl) (fun X bd ns H vs Q E h => by
    obtain ⟨R, rs', rfl, hR, hl, ok, k⟩ := h
    have nm := bd.nm
    have hB := T.blt
    have d1 := ok_line (P := P) (w := w) (base := base) T
    have d2 := ok_Route_of (P := P) (w := w) (base := base) T
    have gr := T.gr
    have al : Alls TRow.o (rs'.map TRow.o) rs' := .self
    have n2 : rs'.length ≤ 60 := by have := ok.n2; rw [List.length_map] at this; exact this
    with_reducible refine wb_go (M := fun _ => False) (L := (R, .lst (rs'.map TRow.v)) :: rs'.map TRow.o) (σ := [some (.ref R), none]) ?e (.any ?h1) ?_
    (case e => rfl)
    (case h1 =>
      intro q hq
      rcases List.mem_cons.mp hq with e | hq
      · rw [e]; exact hR
      · obtain ⟨x, hx, rfl⟩ := List.mem_map.mp hq; exact hl x hx)
    fail "x"
    refine Body.lcMs false TRow.v Leg.v (Leg.o c) MdeT bd ns [("row", 1)] ["row"] ["row"] ⟨rfl, by decide +kernel, by decide +kernel, by decide +kernel, by decide +kernel⟩ (by decide +kernel) (by decide +kernel) (by decide +kernel) (by intro _; rfl) ?_
    fail "x"
    refine ⟨R, rs', rfl, .here, by omega, fun x hx L0 lf B bB nB => ?_, fun D ls nD f2 nf => ?_⟩
    · rw [show wipe [some (.ref R), none] _ = [some (.ref R), none] from rfl]
      have nm1 := bB.nm
      have ix : At L0 x.a (tupO x.e x.t x.r) := .lift lf (.there (al x hx))
      have o := ok.ok x.n (List.mem_map.mpr ⟨x, hx, rfl⟩)
      fail "x"
      intro B2 bB2
      have nm2 := bB2.nm
      fail "x"
      refine rs_lineT (by fail "at") o.e1 o.t1 o.t2 o.r1 (fun p dp np => ?_)
      fail "x"
      exact ⟨⟨_, kdT x.e x.t x.r, _, x.e, x.t, x.r⟩, rfl, ⟨rfl, rfl⟩, by assumption, .refl _⟩
    fail "cat"
    fail "x"
    refine rs_of (ls := ls) .here rfl (.there (.there (.app_r .self))) (by rw [mdeT_n f2]; exact ok) (fun w0 U dw nw nU H' z => ?_)
    refine k w0 U dw ls f2 nw nU H' z.ext0 (z.newsS (.cons₂ _ (.cons₂ _ (.cons _ (.cons _ (List.sublist_append_right _ _))))) fun q hq => ?_)
    rcases List.mem_cons.mp hq with e | hq
    · rw [e]; exact nw
    rcases List.mem_cons.mp hq with e | hq
    · rw [e]; exact nU
    · obtain ⟨y, hy, rfl⟩ := List.mem_map.mp hq
      exact nf y hy)
end

/-! ### walks over drawn rows -/
def spArriveT : Sp := fun vs H Q _ => ∃ (R : Addr) (rs : List TRow) (p : Int), vs = [.ref R, .int p] ∧ H R = some (.lst (rs.map TRow.v)) ∧ (∀ x ∈ rs, H x.a = some x.o.2) ∧ (∀ x ∈ rs, 0 < x.e) ∧ RetP H Q (.int (endT (rs.map TRow.n) p)) []
theorem rs_arriveT {H0 : Hp} {M : Addr → Prop} {L : LL} {Q : V → LL → Prop} {R : Addr} {vs : List V} {rs' : List TRow} {p : Int} {E : XK} (ia : At L R (.lst vs)) (ev : vs = rs'.map TRow.v) (al : Alls TRow.o L rs') (h : ∀ x ∈ rs', 0 < x.e) (q : Q (.int (endT (rs'.map TRow.n) p)) L) : rs H0 M spArriveT E [.ref R, .int p] L Q :=
  fun H z => ⟨R, rs', p, rfl, by rw [← ev]; exact z.get ia, al.get z, h, z.p0 q⟩
def spBackT : Sp := fun vs H Q _ => ∃ (R : Addr) (rs : List TRow) (p : Int), vs = [.ref R, .int p] ∧ H R = some (.lst (rs.map TRow.v)) ∧ (∀ x ∈ rs, H x.a = some x.o.2) ∧ (∀ x ∈ rs, 0 < x.e) ∧ RetP H Q (.int (latT (rs.map TRow.n) p)) []
theorem rs_backT {H0 : Hp} {M : Addr → Prop} {L : LL} {Q : V → LL → Prop} {R : Addr} {vs : List V} {rs' : List TRow} {p : Int} {E : XK} (ia : At L R (.lst vs)) (ev : vs = rs'.map TRow.v) (al : Alls TRow.o L rs') (h : ∀ x ∈ rs', 0 < x.e) (q : Q (.int (latT (rs'.map TRow.n) p)) L) : rs H0 M spBackT E [.ref R, .int p] L Q :=
  fun H z => ⟨R, rs', p, rfl, by rw [← ev]; exact z.get ia, al.get z, h, z.p0 q⟩
def ridesT (ns : List T3) : Int := (ns.map fun x => x.2.2).sum
def spRidesT : Sp := fun vs H Q _ => ∃ (R : Addr) (rs : List TRow), vs = [.ref R] ∧ H R = some (.lst (rs.map TRow.v)) ∧ (∀ x ∈ rs, H x.a = some x.o.2) ∧ rs.length ≤ 1000 ∧ RetP H Q (.int (ridesT (rs.map TRow.n))) []
theorem rs_ridesT {H0 : Hp} {M : Addr → Prop} {L : LL} {Q : V → LL → Prop} {R : Addr} {vs : List V} {rs' : List TRow} {E : XK} (ia : At L R (.lst vs)) (ev : vs = rs'.map TRow.v) (al : Alls TRow.o L rs') (h : rs'.length ≤ 1000) (q : Q (.int (ridesT (rs'.map TRow.n))) L) : rs H0 M spRidesT E [.ref R] L Q :=
  fun H z => ⟨R, rs', rfl, by rw [← ev]; exact z.get ia, al.get z, h, z.p0 q⟩
theorem take_snocT {α : Type} {xs : List α} {i : Nat} {x : α} (h : xs[i]? = some x) : xs.take (i + 1) = xs.take i ++ [x] := by rw [List.take_add_one, h]; rfl

section
variable {P : Program} {w : World} {K : PySem.W.Frag} {mg : Str → Option Value} {base : Heap} {c : Cs3}
end

/-! ### the waits on a route -/
def spBelow : Sp := fun vs H Q _ => ∃ (i n : Int), vs = [.int i, .int n] ∧ RetP H Q (.bl (decide (0 ≤ i ∧ i < n))) []
theorem rs_below {H0 : Hp} {M : Addr → Prop} {L : LL} {Q : V → LL → Prop} {i n : Int} {E : XK} (q : Q (.bl (decide (0 ≤ i ∧ i < n))) L) : rs H0 M spBelow E [.int i, .int n] L Q := fun H z => ⟨i, n, rfl, z.p0 q⟩
def spCheckLeg (c : Cs3) : Sp := fun vs H Q _ => ∃ (a dx T : Addr) (ls : List Leg) (i : Int), vs = [.ref a, .int i] ∧ RtH c H a dx T ls ∧ 0 ≤ i ∧ i < ls.length ∧ RetP H Q .non []
def spLineOf (c : Cs3) : Sp := fun vs H Q _ => ∃ (G : Addr) (ls : List Leg), vs = [.ref G] ∧ H G = some (.lst (ls.map Leg.v)) ∧ (∀ x ∈ ls, H x.a = some (x.o c).2) ∧ (∀ x ∈ ls.map Leg.n, x.ok) ∧ FitsT (ls.map Leg.n) ∧ ls.length ≤ 59 ∧ ∀ q dq, H q = none → RetP H Q (.ref q) [(q, joinO c dq (ls.map Leg.n))]
def spLeastWait (c : Cs3) : Sp := fun vs H Q _ => ∃ a C dx e t r b D dy f u s, vs = [.ref a, .ref b] ∧ H a = some (lineO C dx e t r) ∧ H b = some (lineO D dy f u s) ∧ Ln c C ∧ Ln c D ∧ LOk e t r ∧ LOk f u s ∧ RetP H Q (.int ((u - t - r) % (if f < e then f else e))) []
def spFixed (c : Cs3) : Sp := fun vs H Q _ => ∃ (a dx T : Addr) (ls : List Leg), vs = [.ref a] ∧ RtH c H a dx T ls ∧ RetP H Q (.int ((joinT (ls.map Leg.n)).2.2 - ridesT (ls.map Leg.n))) []
def spTotal (c : Cs3) : Sp := fun vs H Q _ => ∃ (a dx T : Addr) (ls : List Leg) (p : Int), vs = [.ref a, .int p] ∧ RtH c H a dx T ls ∧ RetP H Q (.int (endT (ls.map Leg.n) p - p - ridesT (ls.map Leg.n))) []
section
variable {c : Cs3} {H0 : Hp} {M : Addr → Prop} {L : LL} {Q : V → LL → Prop} {a G dx T b dy U C D : Addr} {ls ms : List Leg} {p i e t r f u s : Int} {E : XK}
theorem rs_checkLeg (h : RtL c L a dx T ls) (h0 : 0 ≤ i) (h1 : i < ls.length) (k : Q .non L) : rs H0 M (spCheckLeg c) E [.ref a, .int i] L Q := fun H z => ⟨a, dx, T, ls, i, rfl, h.get z, h0, h1, z.p0 k⟩
theorem rs_lineOf {vs : List V} (ia : At L G (.lst vs)) (ev : vs = ls.map Leg.v) (al : Alls (Leg.o c) L ls) (ok : ∀ x ∈ ls.map Leg.n, x.ok) (ft : FitsT (ls.map Leg.n)) (hl : ls.length ≤ 59) (k : ∀ q dq, H0 q = none → Q (.ref q) ((q, joinO c dq (ls.map Leg.n)) :: L)) : rs H0 M (spLineOf c) E [.ref G] L Q :=
  fun H z => ⟨G, ls, rfl, by rw [← ev]; exact z.get ia, al.get z, ok, ft, hl, fun q dq n => z.pp (k q dq (z.fresh n))⟩
theorem rs_leastWait (ia : At L a (lineO C dx e t r)) (ib : At L b (lineO D dy f u s)) (hC : Ln c C) (hD : Ln c D) (o1 : LOk e t r) (o2 : LOk f u s) (k : Q (.int ((u - t - r) % (if f < e then f else e))) L) : rs H0 M (spLeastWait c) E [.ref a, .ref b] L Q :=
  fun H z => ⟨a, C, dx, e, t, r, b, D, dy, f, u, s, rfl, z.get ia, z.get ib, hC, hD, o1, o2, z.p0 k⟩
theorem rs_fixed (h : RtL c L a dx T ls) (k : Q (.int ((joinT (ls.map Leg.n)).2.2 - ridesT (ls.map Leg.n))) L) : rs H0 M (spFixed c) E [.ref a] L Q := fun H z => ⟨a, dx, T, ls, rfl, h.get z, z.p0 k⟩
theorem rs_total (h : RtL c L a dx T ls) (k : Q (.int (endT (ls.map Leg.n) p - p - ridesT (ls.map Leg.n))) L) : rs H0 M (spTotal c) E [.ref a, .int p] L Q := fun H z => ⟨a, dx, T, ls, p, rfl, h.get z, z.p0 k⟩
end
theorem join_one (ns : List T3) : joinT ((1, 0, 0) :: ns) = joinT ns := by
  show joinF (jnT (1, 0, 0) (1, 0, 0)) ns = joinF (1, 0, 0) ns
  rw [show jnT (1, 0, 0) (1, 0, 0) = ((1, 0, 0) : T3) by decide +kernel]
def withinV (E F m : Int) : Int := if (if m - F + 1 < E then m - F + 1 else E) > 0 then (if m - F + 1 < E then m - F + 1 else E) else 0
def spWithin (c : Cs3) : Sp := fun vs H Q _ => ∃ (a dx T : Addr) (ls : List Leg) (m : Int), vs = [.ref a, .int m] ∧ RtH c H a dx T ls ∧ RetP H Q (.int (withinV (joinT (ls.map Leg.n)).1 ((joinT (ls.map Leg.n)).2.2 - ridesT (ls.map Leg.n)) m)) []
theorem rs_within {c : Cs3} {H0 : Hp} {M : Addr → Prop} {L : LL} {Q : V → LL → Prop} {a dx T : Addr} {ls : List Leg} {m : Int} {E : XK} (h : RtL c L a dx T ls) (k : Q (.int (withinV (joinT (ls.map Leg.n)).1 ((joinT (ls.map Leg.n)).2.2 - ridesT (ls.map Leg.n)) m)) L) : rs H0 M (spWithin c) E [.ref a, .int m] L Q := fun H z => ⟨a, dx, T, ls, m, rfl, h.get z, z.p0 k⟩
abbrev stepW (b x : T3) : Int := if x.1 < b.1 then x.1 else b.1
def waitsO (b x : T3) : HO := .tup [.int ((x.2.1 - b.2.1 - b.2.2) % stepW b x), .int (if x.1 / stepW b x > 1 then stepW b x else 0), .int (x.1 / stepW b x)]
def spLegWaits (c : Cs3) : Sp := fun vs H Q _ => ∃ (a dx T : Addr) (ls : List Leg) (i : Nat) (x : Leg), vs = [.ref a, .int i] ∧ RtH c H a dx T ls ∧ ls[i]? = some x ∧ (∀ y ∈ ls.map Leg.n, y.1 ≤ 1000000000000000000000000000000000000000000000000000000000000) ∧ ∀ q, H q = none → RetP H Q (.ref q) [(q, waitsO (joinT ((ls.map Leg.n).take i)) x.n)]
theorem rs_legWaits {c : Cs3} {H0 : Hp} {M : Addr → Prop} {L : LL} {Q : V → LL → Prop} {a dx T : Addr} {ls : List Leg} {i : Nat} {x : Leg} {E : XK} (h : RtL c L a dx T ls) (hx : ls[i]? = some x) (h1 : ∀ y ∈ ls.map Leg.n, y.1 ≤ 1000000000000000000000000000000000000000000000000000000000000) (k : ∀ q, H0 q = none → Q (.ref q) ((q, waitsO (joinT ((ls.map Leg.n).take i)) x.n) :: L)) : rs H0 M (spLegWaits c) E [.ref a, .int i] L Q := fun H z => ⟨a, dx, T, ls, i, x, rfl, h.get z, hx, h1, fun q n => z.pp (k q (z.fresh n))⟩
theorem join_head {ns : List T3} (h : ∀ x ∈ ns, x.ok) (f : FitsT ns) (A : Int) (a1 : 1 ≤ A) (hA : ∀ x ∈ ns, x.1 ≤ A) : 1 ≤ (joinT ns).1 ∧ (joinT ns).1 ≤ A := by
  refine ⟨by have := (join_ok h f).ok.e1; omega, ?_⟩
  cases ns with
  | nil => exact a1
  | cons x r =>
    obtain ⟨y, hy, e⟩ := join_mem h f (List.cons_ne_nil _ _)
    rw [e]
    exact hA y hy

section
variable {P : Program} {w : World} {K : PySem.W.Frag} {mg : Str → Option Value} {base : Heap} {c : Cs3}
theorem ok_is_below (T : Tx P K mg c) : DefT P w K mg base CX0 2 "is_below" spBelow :=
  T.is_below.ok bi_is_below fun f fd F => fk_body F sc_is_below lo_is_below pl_is_below (by (conv => lhs; whnf)) (fun vs H Q E h => by obtain ⟨i, n, rfl, _⟩ := h; rfl) (fun X bd ns H vs Q E h => by
    obtain ⟨i, n, rfl, k⟩ := h
    have nm := bd.nm
    have hB := T.blt
    have d1 := ok_is_integer (P := P) (w := w) (base := base) T
    with_reducible refine wb_go (M := fun _ => False) (L := []) (σ := [some (.int i), some (.int n)]) ?e .s0 ?_
    (case e => rfl)
    fail "x"
    refine pick_dec (fun h0 => ?_) (fun h0 => ?_)
    · fail "x"
      exact fun H' z => by
        rw [show decide (0 ≤ i ∧ i < n) = decide (i < n) by rw [decide_eq_decide]; exact ⟨fun z => z.2, fun z => ⟨h0, z⟩⟩] at k
        exact k.e0 z
    · exact fun H' z => by
        rw [show decide (0 ≤ i ∧ i < n) = false from decide_eq_false fun z => h0 z.1] at k
        exact k.e0 z)
theorem ok_check_leg (T : Tx P K mg c) : DefT P w K mg base CX0 3 "check_leg" (spCheckLeg c) :=
  T.check_leg.ok bi_check_leg fun f fd F => fk_body F sc_check_leg lo_check_leg pl_check_leg (by (conv => lhs; whnf)) (fun vs H Q E h => by obtain ⟨a, dx, U, ls, i, rfl, _⟩ := h; rfl) (fun X bd ns H vs Q E h => by
    obtain ⟨a, dx, U, ls, i, rfl, hR, h0, h1, k⟩ := h
    have nm := bd.nm
    have hB := T.blt
    have hK : RtK X.K c.r := by rw [bd.K]; exact T.rt
    have d1 := ok_is_below (P := P) (w := w) (base := base) T
    have d2 := ok_Route_len (P := P) (w := w) (base := base) T
    have rh : RtL c ((a, routeO c.r dx U) :: (U, .tup (ls.map Leg.v)) :: ls.map (Leg.o c)) a dx U ls := ⟨.here, .there .here, .there (.there .self), hR.ok⟩
    with_reducible refine wb_go (M := fun _ => False) (L := (a, routeO c.r dx U) :: (U, .tup (ls.map Leg.v)) :: ls.map (Leg.o c)) (σ := [some (.ref a), some (.int i)]) ?e hR.any ?_
    (case e => rfl)
    fail "x"
    have n60 : ls.length ≤ 60 := by have := hR.ok.n2; rw [List.length_map] at this; exact this
    refine bd.lenO d2 rfl rh.o rfl (Nat.le_trans n60 (by decide)) (rs_rlen rh ⟨rfl, ?_⟩)
    fail "x"
    refine rs_below ?_
    rw [decide_eq_true (show 0 ≤ i ∧ i < (ls.length : Int) from ⟨h0, h1⟩)]
    fail "y"
    exact fun H' z => k.e0 z)
theorem ok_line_of (T : Tx P K mg c) : DefT P w K mg base CX0 7 "line_of" (spLineOf c) :=
  T.line_of.ok bi_line_of fun f fd F => fk_body F sc_line_of lo_line_of pl_line_of (by (conv => lhs; whnf)) (fun vs H Q E h => by obtain ⟨G, ls, rfl, _⟩ := h; rfl) (fun X bd ns H vs Q E h => by
    obtain ⟨G, ls, rfl, hG, hl, ok, ft, h59, k⟩ := h
    have nm := bd.nm
    have hB := T.blt
    have d1 := ok_Walk (P := P) (w := w) (base := base) T
    have d2 := ok_Route_of (P := P) (w := w) (base := base) T
    have d3 := ok_Route_line (P := P) (w := w) (base := base) T
    have gr := T.gr
    have al : Alls (Leg.o c) (ls.map (Leg.o c)) ls := .self
    with_reducible refine wb_go (M := fun _ => False) (L := (G, .lst (ls.map Leg.v)) :: ls.map (Leg.o c)) (σ := [some (.ref G)]) ?e (.any ?h1) ?_
    (case e => rfl)
    (case h1 =>
      intro q hq
      rcases List.mem_cons.mp hq with e | hq
      · rw [e]; exact hG
      · obtain ⟨x, hx, rfl⟩ := List.mem_map.mp hq; exact hl x hx)
    fail "x"
    rename_i w1 w0 nw1 nw0 p1 np1
    refine ro_cat .here (by fail "at") (Nat.le_trans (m := 1000) (by rw [List.length_map]; show 1 + ls.length ≤ 1000; omega) (by decide)) (fun q2 nq2 => ?_)
    fail "x"
    have en : ((⟨w1, .walk, w0, 1, 0, 0⟩ : Leg) :: ls).map Leg.n = (1, 0, 0) :: ls.map Leg.n := rfl
    have rok : RtOk (((⟨w1, .walk, w0, 1, 0, 0⟩ : Leg) :: ls).map Leg.n) := by
      rw [en]
      exact ⟨fun x hx => (List.mem_cons.mp hx).elim (fun e => by rw [e]; exact one_ok) (ok x), fits_one ft, by rw [List.length_cons]; omega, by rw [List.length_cons, List.length_map]; omega⟩
    have ra : Alls (Leg.o c) ((q2, .lst ([V.ref w1] ++ ls.map Leg.v)) :: (p1, .lst [.ref w1]) :: (w1, lineO c.w w0 1 0 0) :: (w0, .own w1) :: (G, .lst (ls.map Leg.v)) :: ls.map (Leg.o c)) ((⟨w1, .walk, w0, 1, 0, 0⟩ : Leg) :: ls) := fun y hy => by
      rcases List.mem_cons.mp hy with rfl | h
      · exact .there (.there .here)
      · exact (al y h).there.there.there.there.there
    have ev : [V.ref w1] ++ ls.map Leg.v = ((⟨w1, .walk, w0, 1, 0, 0⟩ : Leg) :: ls).map Leg.v := rfl
    generalize ((⟨w1, .walk, w0, 1, 0, 0⟩ : Leg) :: ls) = ms at en rok ra ev
    refine rs_of (ls := ms) .here ev ra rok (fun w2 U2 dw2 nw2 nU2 => ?_)
    refine ⟨w2, c.r, dw2, _, rfl, .here, rfl, lk_noR (by decide +kernel), ?_⟩
    refine rs_rline ⟨.here, .there .here, fun y hy => (ra y hy).there.there, rok⟩ (fun q3 dq3 nq3 => ?_)
    rw [en, show joinO c dq3 ((1, 0, 0) :: ls.map Leg.n) = joinO c dq3 (ls.map Leg.n) by show lineO c.l dq3 (joinT ((1, 0, 0) :: ls.map Leg.n)).1 (joinT ((1, 0, 0) :: ls.map Leg.n)).2.1 (joinT ((1, 0, 0) :: ls.map Leg.n)).2.2 = _; rw [join_one]]
    exact fun H' z => (k q3 dq3 nq3).e1 nq3 z .here)
end

theorem joinF_ge : ∀ (ns : List T3) (a : T3), a.1 ≤ (joinF a ns).1 ∧ ∀ x ∈ ns, x.1 ≤ (joinF a ns).1
  | [], a => ⟨Int.le_refl _, fun _ h => nomatch h⟩
  | y :: r, a => by
    obtain ⟨h1, h2⟩ := joinF_ge r (jnT a y)
    have g := addE_ge a.1 y.1
    have e : (jnT a y).1 = addE a.1 y.1 := rfl
    show a.1 ≤ (joinF (jnT a y) r).1 ∧ ∀ x ∈ y :: r, x.1 ≤ (joinF (jnT a y) r).1
    refine ⟨by omega, fun x hx => ?_⟩
    rcases List.mem_cons.mp hx with rfl | hx
    · omega
    · exact h2 x hx
theorem join_ge (ns : List T3) : 1 ≤ (joinT ns).1 ∧ ∀ x ∈ ns, x.1 ≤ (joinT ns).1 := joinF_ge ns (1, 0, 0)
/-- the join's headway is the greatest one -/
theorem join_max {ns : List T3} (h : ∀ x ∈ ns, x.ok) (f : FitsT ns) {m : Int} (hm : m ∈ 1 :: ns.map (·.1)) (hx : ∀ y ∈ 1 :: ns.map (·.1), y ≤ m) : m = (joinT ns).1 := by
  obtain ⟨g1, g2⟩ := join_ge ns
  have a : m ≤ (joinT ns).1 := by
    rcases List.mem_cons.mp hm with rfl | hm
    · exact g1
    · obtain ⟨x, hx2, rfl⟩ := List.mem_map.mp hm
      exact g2 x hx2
  have b : (joinT ns).1 ≤ m := by
    cases ns with
    | nil => exact hx 1 (by simp)
    | cons x r =>
      obtain ⟨y, hy, e⟩ := join_mem h f (List.cons_ne_nil _ _)
      rw [e]
      exact hx _ (List.mem_cons_of_mem _ (List.mem_map.mpr ⟨y, hy, rfl⟩))
  omega
theorem stepW_dvd {b x : T3} (hb : 0 < b.1) (x0 : 0 < x.1) (f : FitI b.1 x.1) : stepW b x ∣ b.1 := by
  show (if x.1 < b.1 then x.1 else b.1) ∣ b.1
  split
  · rename_i h
    rcases f with h1 | h1
    · have := Int.le_of_dvd x0 h1
      omega
    · exact h1
  · exact Int.dvd_refl _
theorem stepW_dvd' {b x : T3} (hb : 0 < b.1) (x0 : 0 < x.1) (f : FitI b.1 x.1) : stepW b x ∣ x.1 := by
  show (if x.1 < b.1 then x.1 else b.1) ∣ x.1
  split
  · exact Int.dvd_refl _
  · rename_i h
    rcases f with h1 | h1
    · exact h1
    · have := Int.le_of_dvd hb h1
      rw [show x.1 = b.1 by omega]
      exact Int.dvd_refl _
theorem emod_same {a b m : Int} (h : m ∣ a - b) : a % m = b % m := Int.emod_eq_emod_iff_emod_sub_eq_zero.mpr (Int.emod_eq_zero_of_dvd h)
/-- what is left to wait, told by an arrival -/
theorem wait_same {b x : T3} (hb : b.ok) (x0 : 0 < x.1) (f : FitI b.1 x.1) (p : Int) : (x.2.1 - b.2.1 - b.2.2) % stepW b x = (x.2.1 - b.arr p) % stepW b x := by
  refine emod_same (Int.dvd_trans (stepW_dvd hb.e1 x0 f) ?_)
  show b.1 ∣ (x.2.1 - b.2.1 - b.2.2) - (x.2.1 - (p + (b.2.1 - p) % b.1 + b.2.2))
  have e := Int.mul_ediv_add_emod (b.2.1 - p) b.1
  refine ⟨-((b.2.1 - p) / b.1), ?_⟩
  rw [Int.mul_neg]
  omega
theorem steps_many {b x : T3} (hb : 0 < b.1) (x0 : 0 < x.1) (f : FitI b.1 x.1) : x.1 / stepW b x = (if x.1 / b.1 > 1 then x.1 / b.1 else 1) ∧ (if x.1 / stepW b x > 1 then stepW b x else 0) = (if (if x.1 / b.1 > 1 then x.1 / b.1 else 1) > 1 then b.1 else 0) := by
  have key : x.1 / stepW b x = (if x.1 / b.1 > 1 then x.1 / b.1 else 1) ∧ (x.1 / stepW b x > 1 → stepW b x = b.1) := by
    show x.1 / (if x.1 < b.1 then x.1 else b.1) = _ ∧ (x.1 / (if x.1 < b.1 then x.1 else b.1) > 1 → (if x.1 < b.1 then x.1 else b.1) = b.1)
    split
    · rename_i h
      rw [Int.ediv_self (by omega), Int.ediv_eq_zero_of_lt (by omega) h]
      exact ⟨rfl, fun z => absurd z (by decide)⟩
    · rename_i h
      have h1 : 1 ≤ x.1 / b.1 := (Int.le_ediv_iff_mul_le hb).mpr (by omega)
      refine ⟨?_, fun _ => rfl⟩
      split <;> omega
  refine ⟨key.1, ?_⟩
  rw [← key.1]
  split
  · rename_i h; exact key.2 h
  · rfl
theorem F2.get {α β : Type} {T : α → β → Prop} {xs : List α} {ys : List β} (h : F2 T xs ys) : ∀ {i : Nat} {x : α}, xs[i]? = some x → ∃ y, ys[i]? = some y ∧ T x y := by
  induction h with
  | nil => intro i x e; cases e
  | cons h t ih =>
    intro i x e
    cases i with
    | zero => cases e; exact ⟨_, rfl, h⟩
    | succ i => exact ih e
theorem stepW_min (b x : T3) : (if b.1 < x.1 then b.1 else x.1) = stepW b x := by
  show _ = (if x.1 < b.1 then x.1 else b.1)
  split <;> split <;> omega
theorem ka_subP {X : Cx} {H0 : Hp} {M : Addr → Prop} {es : List Expr} {σ : L2.St} {L L' L'' : LL} {Q : List V → LL → Prop} (p : L'.Perm L'') (s : Sub L'' L) (h : ka X H0 M es σ L' Q) : ka X H0 M es σ L Q := fun H z => h H ((z.sub s).perm p)
theorem Body.asgT {X : Cx} {P : Program} {w : World} {K : PySem.W.Frag} {mg : Str → Option Value} {base : Heap} {k : Nat} {N Nv : List Str} {sc : Scope} {H0 : Hp} {M : Addr → Prop} {L : LL} {σ : L2.St} {tg e : Expr} {pos : Pos} {nx : L2.St → LL → Prop} {rt : V → LL → Prop} {bk ct : L2.St → LL → Prop} (bd : Xi.Body X P w K mg base k N Nv sc)
    (hs : ∀ env : Env, env.scope = sc → swapsWithSole [tg] e pos.line env = pure false) (hw : ∀ env : Env, env.scope = sc → swappedStores [tg] e env = pure none) (h1 : (assignEach [tg] X.env).map (·.2) = [assign tg X.env])
    (h : ke X H0 M e σ L fun v L1 => kg X H0 M tg v σ L1 nx) : ks X H0 M (.Assign [tg] e pos) nx rt bk ct σ L := ks_asg (hs _ bd.scope) (hw _ bd.scope) h1 h
def spLegRight (c : Cs3) : Sp := fun vs H Q _ => ∃ (f R W dw U : Addr) (a b d most : Int) (i : Nat) (is : List Int) (rs : List TRow) (ls : List Leg), vs = [.ref f, .ref R, .ref W, .int i] ∧ H f = some (feedO a b d) ∧ H R = some (.lst (rs.map TRow.v)) ∧ (∀ x ∈ rs, H x.a = some x.o.2) ∧ RtH c H W dw U ls ∧ F2 MdeT rs ls ∧ 0 ≤ a ∧ 0 ≤ b ∧ b ≤ 1000000000000000000000000000000000000000000 ∧ 0 ≤ d ∧ d ≤ 100000000000000000000000000000 ∧ most ≤ 100000000000000000000000000000000000000000000000000000000000 ∧ ChainOk most is ∧ TRowsOk most is rs ∧ i < rs.length ∧
  ∀ a' d', 0 ≤ a' → d ≤ d' → d' ≤ d + 1 → RetC H Q (.bl true) f (feedO a' b d') []
theorem tape_ne {H : Hp} {f : Addr} {a b d : Int} {x : TRow} (hf : H f = some (feedO a b d)) (hx : H x.a = some x.o.2) : x.a ≠ f := fun e => by
  rw [e, hf] at hx
  cases hx
theorem trip_entry {c : Cs3} {H : Hp} {f R W dw U : Addr} {a b d : Int} {rs : List TRow} {ls : List Leg} (hf : H f = some (feedO a b d)) (hR : H R = some (.lst (rs.map TRow.v))) (hl : ∀ x ∈ rs, H x.a = some x.o.2) (hW : RtH c H W dw U ls) : Hs H (fun x => x = f) ((f, feedO a b d) :: (R, .lst (rs.map TRow.v)) :: (W, routeO c.r dw U) :: (U, .tup (ls.map Leg.v)) :: (rs.map TRow.o ++ ls.map (Leg.o c))) H :=
  .anyM hf (fun q hq => by
    rcases List.mem_cons.mp hq with e | hq
    · rw [e]; exact hR
    rcases List.mem_cons.mp hq with e | hq
    · rw [e]; exact hW.o
    rcases List.mem_cons.mp hq with e | hq
    · rw [e]; exact hW.t
    rcases List.mem_append.mp hq with hq | hq
    · obtain ⟨x, hx, rfl⟩ := List.mem_map.mp hq; exact hl x hx
    · obtain ⟨x, hx, rfl⟩ := List.mem_map.mp hq; exact hW.l x hx) (fun q hq => by
    rcases List.mem_cons.mp hq with e | hq
    · rw [e]
      intro z
      change R = f at z
      rw [z, hf] at hR
      cases rs with
      | nil => cases hR
      | cons x r => cases hR
    rcases List.mem_cons.mp hq with e | hq
    · rw [e]
      intro z
      change W = f at z
      have := hW.o
      rw [z, hf] at this
      cases this
    rcases List.mem_cons.mp hq with e | hq
    · rw [e]
      intro z
      change U = f at z
      have := hW.t
      rw [z, hf] at this
      cases this
    rcases List.mem_append.mp hq with hq | hq
    · obtain ⟨x, hx, rfl⟩ := List.mem_map.mp hq; exact tape_ne hf (hl x hx)
    · obtain ⟨x, hx, rfl⟩ := List.mem_map.mp hq
      intro z
      have := hW.l x hx
      change x.a = f at z
      rw [z, hf] at this
      cases this)
theorem rides_le : ∀ {ns : List T3}, (∀ x ∈ ns, 0 ≤ x.2.2 ∧ x.2.2 ≤ 1000000000000000000000000000000000000000000000000000000000000) → 0 ≤ ridesT ns ∧ ridesT ns ≤ ns.length * 1000000000000000000000000000000000000000000000000000000000000
  | [], _ => ⟨Int.le_refl 0, Int.le_refl 0⟩
  | x :: r, h => by
    obtain ⟨h1, h2⟩ := rides_le (ns := r) fun y hy => h y (List.mem_cons_of_mem _ hy)
    obtain ⟨x1, x2⟩ := h x List.mem_cons_self
    have e : ridesT (x :: r) = x.2.2 + ridesT r := by show ((x :: r).map fun x => x.2.2).sum = _; rw [List.map_cons, List.sum_cons]; rfl
    rw [e, List.length_cons]
    constructor <;> omega
theorem TRowsOk.rides {most : Int} {is : List Int} {rs : List TRow} (h : TRowsOk most is rs) (n60 : rs.length ≤ 60) : 0 ≤ ridesT (rs.map TRow.n) ∧ ridesT (rs.map TRow.n) ≤ 60000000000000000000000000000000000000000000000000000000000000 := by
  have a := rides_le (ns := rs.map TRow.n) fun x hx => by
    obtain ⟨u, hu, rfl⟩ := List.mem_map.mp hx
    have := h.ok u hu
    exact ⟨this.2.2.2.2.1, this.2.2.2.2.2⟩
  have l : (rs.map TRow.n).length = rs.length := List.length_map _
  omega
theorem TRowsOk.ends {most : Int} {is : List Int} {rs : List TRow} (h : TRowsOk most is rs) (hm : most ≤ 100000000000000000000000000000000000000000000000000000000000) (n60 : rs.length ≤ 60) (p : Int) : p ≤ endT (rs.map TRow.n) p ∧ endT (rs.map TRow.n) p ≤ p + 120000000000000000000000000000000000000000000000000000000000000 := by
  have ok : ∀ x ∈ rs.map TRow.n, x.ok := fun x hx => by
    obtain ⟨u, hu, rfl⟩ := List.mem_map.mp hx
    exact (h.lok u hu).t3
  refine ⟨end_self ok p, ?_⟩
  have a := end_le (ns := rs.map TRow.n) (A := 2000000000000000000000000000000000000000000000000000000000000) (fun x hx => ⟨ok x hx, by
    obtain ⟨u, hu, rfl⟩ := List.mem_map.mp hx
    have := h.ok u hu
    show u.e + u.r ≤ _
    omega⟩) p
  have l : (rs.map TRow.n).length = rs.length := List.length_map _
  omega
theorem due_ride {ns : List T3} (h : RtOk ns) (g : Int) : endT ns (latT ns g) - latT ns g = (joinT ns).2.2 := by
  have z : ((joinT ns).lat g - (joinT ns).2.1) % (joinT ns).1 = 0 := late_first (x := joinT ns) (r := []) (g := g)
  rw [← lat_join h.ok h.fit, ← join_arr h.ok h.fit]
  generalize (joinT ns).lat g = p at z
  have d : (joinT ns).1 ∣ (joinT ns).2.1 - p := by
    obtain ⟨k, e⟩ := Int.dvd_of_emod_eq_zero z
    exact ⟨-k, by rw [Int.mul_neg]; omega⟩
  have z2 := Int.emod_eq_zero_of_dvd d
  show p + ((joinT ns).2.1 - p) % (joinT ns).1 + (joinT ns).2.2 - p = (joinT ns).2.2
  omega
theorem TRowsOk.ride {most : Int} {is : List Int} {rs : List TRow} (h : TRowsOk most is rs) (hm : most ≤ 100000000000000000000000000000000000000000000000000000000000) (n60 : rs.length ≤ 60) (rt : RtOk (rs.map TRow.n)) : 0 ≤ (joinT (rs.map TRow.n)).2.2 ∧ (joinT (rs.map TRow.n)).2.2 ≤ 120000000000000000000000000000000000000000000000000000000000000 ∧ 1 ≤ (joinT (rs.map TRow.n)).1 ∧ (joinT (rs.map TRow.n)).1 ≤ 100000000000000000000000000000000000000000000000000000000000 := by
  have j := (join_ok rt.ok rt.fit).ok
  have a := join_ride rt (A := 2000000000000000000000000000000000000000000000000000000000000) (fun x hx => by
    obtain ⟨u, hu, rfl⟩ := List.mem_map.mp hx
    have := h.ok u hu
    show u.e + u.r ≤ _
    omega)
  have l : (rs.map TRow.n).length = rs.length := List.length_map _
  have b := join_head rt.ok rt.fit 100000000000000000000000000000000000000000000000000000000000 (by decide) (fun y hy => by
    obtain ⟨u, hu, rfl⟩ := List.mem_map.mp hy
    have := (h.ok u hu).2.1
    show u.e ≤ _
    omega)
  exact ⟨j.r1, by omega, b.1, b.2⟩
def spRightT : Sp := fun vs H Q _ => ∃ (f R : Addr) (a b d most : Int) (is : List Int) (rs : List TRow), vs = [.ref f, .ref R] ∧ H f = some (feedO a b d) ∧ H R = some (.lst (rs.map TRow.v)) ∧ (∀ x ∈ rs, H x.a = some x.o.2) ∧ 0 ≤ a ∧ 0 ≤ b ∧ b ≤ 1000000000000000000000000000000000000000000 ∧ 0 ≤ d ∧ d ≤ 10000000000000000000000000000 ∧ most ≤ 100000000000000000000000000000000000000000000000000000000000 ∧ ChainOk most is ∧ TRowsOk most is rs ∧ 1 ≤ rs.length ∧ rs.length ≤ 60 ∧
  ∀ a' d', 0 ≤ a' → d ≤ d' → d' ≤ d + 1000 → RetC H Q (.bl true) f (feedO a' b d') []
theorem rows_entryT {H : Hp} {f R : Addr} {a b d : Int} {rs : List TRow} (hf : H f = some (feedO a b d)) (hR : H R = some (.lst (rs.map TRow.v))) (hl : ∀ x ∈ rs, H x.a = some x.o.2) : Hs H (fun x => x = f) ((f, feedO a b d) :: (R, .lst (rs.map TRow.v)) :: rs.map TRow.o) H :=
  .anyM hf (fun q hq => by
    rcases List.mem_cons.mp hq with e | hq
    · rw [e]; exact hR
    · obtain ⟨x, hx, rfl⟩ := List.mem_map.mp hq; exact hl x hx) (fun q hq => by
    rcases List.mem_cons.mp hq with e | hq
    · rw [e]
      intro z
      change R = f at z
      rw [z, hf] at hR
      cases rs with
      | nil => cases hR
      | cons x r => cases hR
    · obtain ⟨x, hx, rfl⟩ := List.mem_map.mp hq; exact tape_ne hf (hl x hx))
def spStartsT : Sp := fun vs H Q _ => ∃ (f : Addr) (a b d : Int), vs = [.ref f] ∧ H f = some (feedO a b d) ∧ 0 ≤ a ∧ 0 ≤ b ∧ b ≤ 1000000000000000000000000000000000000000000 ∧ 0 ≤ d ∧ d ≤ 100000000000000000000000000000 ∧
  ∀ q a' d' (is : List Int), H q = none → 0 ≤ a' → d ≤ d' → d' ≤ d + 3 → is.length = 4 → RetC H Q (.ref q) f (feedO a' b d') [(q, .lst (is.map V.int))]
theorem rs_startsT {H0 : Hp} {M : Addr → Prop} {L : LL} {Q : V → LL → Prop} {f : Addr} {a b d : Int} {E : XK} {g : HO → LL} (s : Spot L f (feedO a b d) g) (cc : H0 f = none ∨ M f) (ha : 0 ≤ a) (hb : 0 ≤ b) (hb1 : b ≤ 1000000000000000000000000000000000000000000) (hd : 0 ≤ d) (hd1 : d ≤ 100000000000000000000000000000)
    (q : ∀ p a' d' (is : List Int), H0 p = none → 0 ≤ a' → d ≤ d' → d' ≤ d + 3 → is.length = 4 → Q (.ref p) ((p, .lst (is.map V.int)) :: g (feedO a' b d'))) : rs H0 M spStartsT E [.ref f] L Q :=
  fun H z => ⟨f, a, b, d, rfl, z.at_ _ s.mem, ha, hb, hb1, hd, hd1, fun p a' d' is n h1 h2 h3 h4 => z.cc s cc (q p a' d' is (z.fresh n) h1 h2 h3 h4)⟩

/-! ### the best departures of a leg -/
abbrev lnF (C dx : Addr) (x : T3) : HO := lineO C dx x.1 x.2.1 x.2.2
abbrev befT (ns : List T3) (i : Nat) : T3 := joinT (ns.take i)
abbrev aftT (ns : List T3) (i : Nat) : T3 := joinT (ns.drop (i + 1))
/-- before, the leg, behind -/
structure Thr (c : Cs3) (H : Hp) (p C dp q D dq r E dr : Addr) (b x a : T3) : Prop where
  p : H p = some (lnF C dp b)
  q : H q = some (lnF D dq x)
  r : H r = some (lnF E dr a)
  C : Ln c C
  D : Ln c D
  E : Ln c E
  ob : b.ok
  ox : x.ok
  oa : a.ok
structure ThrL (c : Cs3) (L : LL) (p C dp q D dq r E dr : Addr) (b x a : T3) : Prop where
  p : At L p (lnF C dp b)
  q : At L q (lnF D dq x)
  r : At L r (lnF E dr a)
  C : Ln c C
  D : Ln c D
  E : Ln c E
  ob : b.ok
  ox : x.ok
  oa : a.ok
theorem ThrL.get {c : Cs3} {H0 H : Hp} {M : Addr → Prop} {L : LL} {p C dp q D dq r E dr : Addr} {b x a : T3} (h : ThrL c L p C dp q D dq r E dr b x a) (z : Hs H0 M L H) : Thr c H p C dp q D dq r E dr b x a := ⟨z.get h.p, z.get h.q, z.get h.r, h.C, h.D, h.E, h.ob, h.ox, h.oa⟩
theorem ThrL.there {c : Cs3} {L : LL} {u : Addr × HO} {p C dp q D dq r E dr : Addr} {b x a : T3} (h : ThrL c L p C dp q D dq r E dr b x a) : ThrL c (u :: L) p C dp q D dq r E dr b x a := ⟨h.p.there, h.q.there, h.r.there, h.C, h.D, h.E, h.ob, h.ox, h.oa⟩
def spLeastWaits (c : Cs3) : Sp := fun vs H Q _ => ∃ (p C dp q D dq r E dr : Addr) (b x a : T3), vs = [.ref p, .ref q, .ref r] ∧ Thr c H p C dp q D dq r E dr b x a ∧ RetP H Q (.int (leastT b x a)) []
def spBestBlock (c : Cs3) : Sp := fun vs H Q _ => ∃ (p C dp q D dq r E dr : Addr) (b x a : T3), vs = [.ref p, .ref q, .ref r] ∧ Thr c H p C dp q D dq r E dr b x a ∧ ∀ s, H s = none → RetP H Q (.ref s) [(s, tpO (bestT b x a))]
def spSides (c : Cs3) : Sp := fun vs H Q _ => ∃ (a dx T : Addr) (ls : List Leg) (i : Nat) (x : Leg), vs = [.ref a, .int i] ∧ RtH c H a dx T ls ∧ ls[i]? = some x ∧ ∀ s p dp r dr, H s = none → H p = none → H r = none → RetP H Q (.ref s) [(s, .tup [.ref p, .ref x.a, .ref r]), (r, joinO c dr ((ls.map Leg.n).drop (i + 1))), (p, joinO c dp ((ls.map Leg.n).take i))]
def spBestRide (c : Cs3) : Sp := fun vs H Q _ => ∃ (a dx T : Addr) (ls : List Leg) (i : Nat) (x : Leg), vs = [.ref a, .int i] ∧ RtH c H a dx T ls ∧ ls[i]? = some x ∧ RetP H Q (.int (bestR (befT (ls.map Leg.n) i) x.n (aftT (ls.map Leg.n) i))) []
def spCountBest (c : Cs3) : Sp := fun vs H Q _ => ∃ (a dx T : Addr) (ls : List Leg) (i : Nat) (x : Leg), vs = [.ref a, .int i] ∧ RtH c H a dx T ls ∧ ls[i]? = some x ∧ x.e ≤ 1000000000000000000000000000000000000000000000000000000000000 ∧ RetP H Q (.int (bestC (befT (ls.map Leg.n) i) x.n (aftT (ls.map Leg.n) i))) []
def isBestB (b x a : T3) (t : Int) : Bool := decide (0 ≤ t ∧ t < x.1) && decide (bestIs b x a t)
def spIsBest (c : Cs3) : Sp := fun vs H Q _ => ∃ (a dx T : Addr) (ls : List Leg) (i : Nat) (x : Leg) (t : Int), vs = [.ref a, .int i, .int t] ∧ RtH c H a dx T ls ∧ ls[i]? = some x ∧ RetP H Q (.bl (isBestB (befT (ls.map Leg.n) i) x.n (aftT (ls.map Leg.n) i) t)) []
def spNthBest (c : Cs3) : Sp := fun vs H Q _ => ∃ (a dx T : Addr) (ls : List Leg) (i : Nat) (x : Leg) (n : Int), vs = [.ref a, .int i, .int n] ∧ RtH c H a dx T ls ∧ ls[i]? = some x ∧ x.e ≤ 1000000000000000000000000000000000000000000000000000000000000 ∧ 0 ≤ n ∧ n < bestC (befT (ls.map Leg.n) i) x.n (aftT (ls.map Leg.n) i) ∧ RetP H Q (.int (bestN (befT (ls.map Leg.n) i) x.n (aftT (ls.map Leg.n) i) n)) []
section
variable {c : Cs3} {H0 : Hp} {M : Addr → Prop} {L : LL} {Q : V → LL → Prop} {a dx T p C dp q D dq r E dr : Addr} {ls : List Leg} {x : Leg} {t n v : Int} {i : Nat} {EE : XK} {b y z : T3}
theorem rs_leastWaits (h : ThrL c L p C dp q D dq r E dr b y z) (k : Q (.int (leastT b y z)) L) : rs H0 M (spLeastWaits c) EE [.ref p, .ref q, .ref r] L Q := fun H z' => ⟨p, C, dp, q, D, dq, r, E, dr, b, y, z, rfl, h.get z', z'.p0 k⟩
theorem rs_bestBlock (h : ThrL c L p C dp q D dq r E dr b y z) (k : ∀ s, H0 s = none → Q (.ref s) ((s, tpO (bestT b y z)) :: L)) : rs H0 M (spBestBlock c) EE [.ref p, .ref q, .ref r] L Q := fun H z' => ⟨p, C, dp, q, D, dq, r, E, dr, b, y, z, rfl, h.get z', fun s n => z'.pp (k s (z'.fresh n))⟩
theorem rs_sides (h : RtL c L a dx T ls) (hx : ls[i]? = some x) (k : ∀ s p dp r dr, H0 s = none → H0 p = none → H0 r = none → Q (.ref s) ((s, .tup [.ref p, .ref x.a, .ref r]) :: (r, joinO c dr ((ls.map Leg.n).drop (i + 1))) :: (p, joinO c dp ((ls.map Leg.n).take i)) :: L)) : rs H0 M (spSides c) EE [.ref a, .int i] L Q :=
  fun H z' => ⟨a, dx, T, ls, i, x, rfl, h.get z', hx, fun s p dp r dr n1 n2 n3 => z'.pp (k s p dp r dr (z'.fresh n1) (z'.fresh n2) (z'.fresh n3))⟩
theorem rs_bestRide (h : RtL c L a dx T ls) (hx : ls[i]? = some x) (e : bestR (befT (ls.map Leg.n) i) x.n (aftT (ls.map Leg.n) i) = v) (k : Q (.int v) L) : rs H0 M (spBestRide c) EE [.ref a, .int i] L Q := fun H z' => ⟨a, dx, T, ls, i, x, rfl, h.get z', hx, z'.p0 (by rw [e]; exact k)⟩
theorem rs_countBest (h : RtL c L a dx T ls) (hx : ls[i]? = some x) (hb : x.e ≤ 1000000000000000000000000000000000000000000000000000000000000) (e : bestC (befT (ls.map Leg.n) i) x.n (aftT (ls.map Leg.n) i) = v) (k : Q (.int v) L) : rs H0 M (spCountBest c) EE [.ref a, .int i] L Q := fun H z' => ⟨a, dx, T, ls, i, x, rfl, h.get z', hx, hb, z'.p0 (by rw [e]; exact k)⟩
theorem rs_isBest (h : RtL c L a dx T ls) (hx : ls[i]? = some x) {f : Bool} (e : isBestB (befT (ls.map Leg.n) i) x.n (aftT (ls.map Leg.n) i) t = f) (k : Q (.bl f) L) : rs H0 M (spIsBest c) EE [.ref a, .int i, .int t] L Q := fun H z' => ⟨a, dx, T, ls, i, x, t, rfl, h.get z', hx, z'.p0 (by rw [e]; exact k)⟩
theorem rs_nthBest (h : RtL c L a dx T ls) (hx : ls[i]? = some x) (hb : x.e ≤ 1000000000000000000000000000000000000000000000000000000000000) (n0 : 0 ≤ n) (n1 : n < bestC (befT (ls.map Leg.n) i) x.n (aftT (ls.map Leg.n) i)) (e : bestN (befT (ls.map Leg.n) i) x.n (aftT (ls.map Leg.n) i) n = v) (k : Q (.int v) L) : rs H0 M (spNthBest c) EE [.ref a, .int i, .int n] L Q := fun H z' => ⟨a, dx, T, ls, i, x, n, rfl, h.get z', hx, hb, n0, n1, z'.p0 (by rw [e]; exact k)⟩
end
theorem leg_n {ls : List Leg} {i : Nat} {x : Leg} (hx : ls[i]? = some x) : (ls.map Leg.n)[i]? = some x.n := by rw [List.getElem?_map, hx]; rfl
theorem rt_dropV {ns : List T3} (h : RtOk ns) (i : Nat) : (∀ x ∈ ns.drop i, x.ok) ∧ FitsT (ns.drop i) := ⟨fun x hx => h.ok x (List.mem_of_mem_drop hx), h.fit.sublist (List.drop_sublist _ _)⟩
theorem rt_takeV {ns : List T3} (h : RtOk ns) (i : Nat) : (∀ x ∈ ns.take i, x.ok) ∧ FitsT (ns.take i) := ⟨fun x hx => h.ok x (List.mem_of_mem_take hx), h.fit.sublist (List.take_sublist _ _)⟩
theorem sides_thr {c : Cs3} {L : LL} {t : HO} {ns : List T3} {s p dp r dr : Addr} {x : Leg} {i : Nat} (m : Mid (befT ns i) x.n (aftT ns i)) (ix : At L x.a (lineO (c.of x.k) x.d x.e x.t x.r)) : ThrL c ((s, t) :: (r, joinO c dr (ns.drop (i + 1))) :: (p, joinO c dp (ns.take i)) :: L) p c.l dp x.a (c.of x.k) x.d r c.l dr (befT ns i) x.n (aftT ns i) :=
  ⟨.there (.there .here), ix.there.there.there, .there .here, .inl rfl, Ln.of c _, .inl rfl, m.ob, m.ox, m.oa⟩
theorem slT_12 {H0 : Hp} {L : LL} {Q : V → LL → Prop} {p : Addr} {u v w : V} (ia : At L p (.tup [u, v, w])) (k : New H0 (.tup [v, w]) L Q) : ∃ p' xs, V.ref p = .ref p' ∧ At L p' (.tup xs) ∧ ¬ (HT.sIx xs.length 0 (some 1) = 0 ∧ HT.sIx xs.length xs.length none = xs.length) ∧ New H0 (.tup (cutV xs (some 1) none)) L Q :=
  ⟨p, _, rfl, ia, by show ¬ (HT.sIx 3 0 (some 1) = 0 ∧ HT.sIx 3 3 none = 3); decide +kernel, k⟩

section
variable {P : Program} {w : World} {K : PySem.W.Frag} {mg : Str → Option Value} {base : Heap} {c : Cs3}
local macro_rules | `(tactic| fail "xt") => `(tactic| repeat first | (with_reducible refine ke_slT ?_) | fail "1")
theorem ok_least_waits (T : Tx P K mg c) : DefT P w K mg base CX0 4 "least_waits" (spLeastWaits c) :=
  T.least_waits.ok bi_least_waits fun f fd F => fk_body F sc_least_waits lo_least_waits pl_least_waits (by (conv => lhs; whnf)) (fun vs H Q E h => by obtain ⟨p, C, dp, q, D, dq, r, E, dr, b, x, a, rfl, _⟩ := h; rfl) (fun X bd ns H vs Q E h => by
    obtain ⟨p, C, dp, q, D, dq, r, E, dr, b, x, a, rfl, ⟨hp, hq, hr, hC, hD, hE, ob, ox, oa⟩, k⟩ := h
    have nm := bd.nm
    have hB := T.blt
    have d1 := ok_Line_every (P := P) (w := w) (base := base) T
    have d2 := ok_Line_at (P := P) (w := w) (base := base) T
    have d3 := ok_Line_ride (P := P) (w := w) (base := base) T
    have e1 := ob.e1
    have f1 := oa.e1
    with_reducible refine wb_go (M := fun _ => False) (L := [(p, lnF C dp b), (q, lnF D dq x), (r, lnF E dr a)]) (σ := [some (.ref p), some (.ref q), some (.ref r)]) ?e (.any (by simp only [List.mem_cons, List.not_mem_nil, or_false]; rintro q (rfl | rfl | rfl) <;> assumption)) ?_
    (case e => rfl)
    fail "x"
    exact fun H' z => k.e0 z)
theorem ok_best_block (T : Tx P K mg c) : DefT P w K mg base CX0 6 "best_block" (spBestBlock c) :=
  T.best_block.ok bi_best_block fun f fd F => fk_body F sc_best_block lo_best_block pl_best_block (by (conv => lhs; whnf)) (fun vs H Q E h => by obtain ⟨p, C, dp, q, D, dq, r, E, dr, b, x, a, rfl, _⟩ := h; rfl) (fun X bd ns H vs Q E h => by
    obtain ⟨p, C, dp, q, D, dq, r, E, dr, b, x, a, rfl, ⟨hp, hq, hr, hC, hD, hE, ob, ox, oa⟩, k⟩ := h
    have nm := bd.nm
    have hB := T.blt
    have d1 := ok_Line_every (P := P) (w := w) (base := base) T
    have d2 := ok_Line_at (P := P) (w := w) (base := base) T
    have d3 := ok_Line_ride (P := P) (w := w) (base := base) T
    have d4 := ok_least_waits (P := P) (w := w) (base := base) T
    have e1 := ob.e1
    have x1 := ox.e1
    have f1 := oa.e1
    with_reducible refine wb_go (M := fun _ => False) (L := [(p, lnF C dp b), (q, lnF D dq x), (r, lnF E dr a)]) (σ := [some (.ref p), some (.ref q), some (.ref r), none, none, none, none, none]) ?e (.any (by simp only [List.mem_cons, List.not_mem_nil, or_false]; rintro q (rfl | rfl | rfl) <;> assumption)) ?_
    (case e => rfl)
    fail "x"
    refine rs_leastWaits ⟨.here, .there .here, .there (.there .here), hC, hD, hE, ob, ox, oa⟩ ?_
    obtain ⟨W, eW⟩ : ∃ z, leastT b x a = z := ⟨_, rfl⟩
    rw [eW]
    fail "x"
    rename_i pt npt
    subst eW
    exact fun H' z => (k pt npt).e1 npt z (show At _ pt (tpO (bestT b x a)) from .here))
theorem ok_sides (T : Tx P K mg c) : DefT P w K mg base CX0 9 "sides" (spSides c) :=
  T.sides.ok bi_sides fun f fd F => fk_body F sc_sides lo_sides pl_sides (by (conv => lhs; whnf)) (fun vs H Q E h => by obtain ⟨a, dx, U, ls, i, x, rfl, _⟩ := h; rfl) (fun X bd ns H vs Q E h => by
    obtain ⟨a, dx, U, ls, i, x, rfl, hR, hx, k⟩ := h
    have nm := bd.nm
    have hB := T.blt
    have hK : RtK X.K c.r := by rw [bd.K]; exact T.rt
    have d1 := ok_check_leg (P := P) (w := w) (base := base) T
    have d4 := ok_Route_legs (P := P) (w := w) (base := base) T
    have d5 := ok_line_of (P := P) (w := w) (base := base) T
    have al : Alls (Leg.o c) (ls.map (Leg.o c)) ls := .self
    have n60 : ls.length ≤ 60 := by have := hR.ok.n2; rw [List.length_map] at this; exact this
    have hi : i < ls.length := (List.getElem?_eq_some_iff.mp hx).1
    have rh : RtL c ((a, routeO c.r dx U) :: (U, .tup (ls.map Leg.v)) :: ls.map (Leg.o c)) a dx U ls := ⟨.here, .there .here, .there (.there .self), hR.ok⟩
    have dok := rt_dropV hR.ok (i + 1)
    have tok := rt_takeV hR.ok i
    with_reducible refine wb_go (M := fun _ => False) (L := (a, routeO c.r dx U) :: (U, .tup (ls.map Leg.v)) :: ls.map (Leg.o c)) (σ := [some (.ref a), some (.int i), none]) ?e hR.any ?_
    (case e => rfl)
    fail "x"
    refine rs_checkLeg rh (by omega) (by omega) ?_
    fail "x"
    rename_i G nG
    refine sl_eq .here (cut_t (k := i) rfl) (fun q1 nq1 => ?_)
    fail "x"
    refine rs_lineOf (ls := ls.take i) .here List.map_take.symm (fun y hy => (al y (List.mem_of_mem_take hy)).there.there.there.there) (by rw [List.map_take]; exact tok.1) (by rw [List.map_take]; exact tok.2) (by rw [List.length_take]; omega) (fun q2 dq2 nq2 => ?_)
    rw [List.map_take]
    fail "x"
    refine ix_lst (by fail "at") (v := x.v) (atI_nat rfl (by rw [List.getElem?_map, hx]; rfl)) ?_
    fail "x"
    refine sl_eq (by fail "at") (cut_d (k := i + 1) (by omega) (by rw [List.length_map]; omega)) (fun q3 nq3 => ?_)
    fail "x"
    refine rs_lineOf (ls := ls.drop (i + 1)) .here List.map_drop.symm (fun y hy => (al y (List.mem_of_mem_drop hy)).there.there.there.there.there.there) (by rw [List.map_drop]; exact dok.1) (by rw [List.map_drop]; exact dok.2) (by rw [List.length_drop]; omega) (fun q4 dq4 nq4 => ?_)
    rw [List.map_drop]
    fail "x"
    rename_i s0 ns0
    exact fun H' z => k s0 q2 dq2 q4 dq4 ns0 nq2 nq4 H' z.ext0 (z.newsS (.cons₂ _ (.cons₂ _ (.cons _ (.cons₂ _ (List.nil_sublist _))))) (by
      simp only [List.mem_cons, List.not_mem_nil, or_false]
      rintro q (rfl | rfl | rfl) <;> assumption)))
theorem fkd_best_ride (T : Tx P K mg c) : ∀ f fd, Fun K "best_ride" "best_ride" s_best_ride f fd → Fk P w K mg base CX0 11 f fd ["route", "index"] (spBestRide c) := fun f fd F =>
  fk_body F sc_best_ride lo_best_ride pl_best_ride (by (conv => lhs; whnf)) (fun vs H Q E h => by obtain ⟨a, dx, U, ls, i, x, rfl, _⟩ := h; rfl) (fun X bd ns H vs Q E h => by
    obtain ⟨a, dx, U, ls, i, x, rfl, hR, hx, k⟩ := h
    have nm := bd.nm
    have hB := T.blt
    have d1 := ok_sides (P := P) (w := w) (base := base) T
    have d2 := ok_Line_ride (P := P) (w := w) (base := base) T
    have d3 := ok_least_waits (P := P) (w := w) (base := base) T
    have lnl : Ln c c.l := .inl rfl
    have lnx := Ln.of c x.k
    have m := leg_mid hR.ok (leg_n hx)
    have al : Alls (Leg.o c) (ls.map (Leg.o c)) ls := .self
    have ix : At (ls.map (Leg.o c)) x.a (lineO (c.of x.k) x.d x.e x.t x.r) := al x (List.mem_of_getElem? hx)
    have rh : RtL c ((a, routeO c.r dx U) :: (U, .tup (ls.map Leg.v)) :: ls.map (Leg.o c)) a dx U ls := ⟨.here, .there .here, .there (.there .self), hR.ok⟩
    with_reducible refine wb_go (M := fun _ => False) (L := (a, routeO c.r dx U) :: (U, .tup (ls.map Leg.v)) :: ls.map (Leg.o c)) (σ := [some (.ref a), some (.int i), none, none, none]) ?e hR.any ?_
    (case e => rfl)
    fail "x"
    refine rs_sides rh hx (fun s p dp r dr ns np nr => ?_)
    fail "x"
    refine rs_leastWaits (sides_thr m ix.there.there) ?_
    fail "x"
    exact fun H' z => k.e0 z)
theorem ok_best_ride (T : Tx P K mg c) : DefT P w K mg base CX0 11 "best_ride" (spBestRide c) := T.best_ride.ok bi_best_ride (fkd_best_ride T)
theorem fkd_count_best (T : Tx P K mg c) : ∀ f fd, Fun K "count_best" "count_best" s_count_best f fd → Fk P w K mg base CX0 11 f fd ["route", "index"] (spCountBest c) := fun f fd F =>
  fk_body F sc_count_best lo_count_best pl_count_best (by (conv => lhs; whnf)) (fun vs H Q E h => by obtain ⟨a, dx, U, ls, i, x, rfl, _⟩ := h; rfl) (fun X bd ns H vs Q E h => by
    obtain ⟨a, dx, U, ls, i, x, rfl, hR, hx, xb, k⟩ := h
    have nm := bd.nm
    have hB := T.blt
    have d1 := ok_sides (P := P) (w := w) (base := base) T
    have d2 := ok_Line_every (P := P) (w := w) (base := base) T
    have d3 := ok_best_block (P := P) (w := w) (base := base) T
    have lnl : Ln c c.l := .inl rfl
    have lnx := Ln.of c x.k
    have m := leg_mid hR.ok (leg_n hx)
    obtain ⟨P0, _, _, _, _, _⟩ := mid_rng m
    have x0 : 0 < x.e := m.ox.e1
    have al : Alls (Leg.o c) (ls.map (Leg.o c)) ls := .self
    have ix : At (ls.map (Leg.o c)) x.a (lineO (c.of x.k) x.d x.e x.t x.r) := al x (List.mem_of_getElem? hx)
    have rh : RtL c ((a, routeO c.r dx U) :: (U, .tup (ls.map Leg.v)) :: ls.map (Leg.o c)) a dx U ls := ⟨.here, .there .here, .there (.there .self), hR.ok⟩
    with_reducible refine wb_go (M := fun _ => False) (L := (a, routeO c.r dx U) :: (U, .tup (ls.map Leg.v)) :: ls.map (Leg.o c)) (σ := [some (.ref a), some (.int i), none, none, none, none, none]) ?e hR.any ?_
    (case e => rfl)
    fail "xt"
    refine rs_sides rh hx (fun s p dp r dr ns np nr => ?_)
    fail "xt"
    refine rs_bestBlock (sides_thr m ix.there.there) (fun t nt => ?_)
    obtain ⟨FF, eF⟩ : ∃ z, (bestT (befT (ls.map Leg.n) i) x.n (aftT (ls.map Leg.n) i)).1 = z := ⟨_, rfl⟩
    obtain ⟨LN, eL⟩ : ∃ z, (bestT (befT (ls.map Leg.n) i) x.n (aftT (ls.map Leg.n) i)).2.1 = z := ⟨_, rfl⟩
    obtain ⟨PE, eP⟩ : ∃ z, (bestT (befT (ls.map Leg.n) i) x.n (aftT (ls.map Leg.n) i)).2.2 = z := ⟨_, rfl⟩
    rw [show tpO (bestT (befT (ls.map Leg.n) i) x.n (aftT (ls.map Leg.n) i)) = .tup [.int FF, .int LN, .int PE] by rw [← eF, ← eL, ← eP]]
    rw [show bestC (befT (ls.map Leg.n) i) x.n (aftT (ls.map Leg.n) i) = x.e / PE * LN by rw [← eL, ← eP]] at k
    rw [eP] at P0
    fail "xt"
    refine slT_12 .here (fun t2 nt2 => ?_)
    fail "xt"
    have pe : PE ≤ x.e := by rw [← eP]; exact Int.le_of_dvd x0 (mid_rng m).2.1
    have le := (mid_rng m).2.2.2.2.2
    rw [show (bestT (joinT ((ls.map Leg.n).take i)) x.n (joinT ((ls.map Leg.n).drop (i + 1)))).2.1 = LN from eL, show (bestT (joinT ((ls.map Leg.n).take i)) x.n (joinT ((ls.map Leg.n).drop (i + 1)))).2.2 = PE from eP] at le
    have l0 : 0 < LN := by rw [← eL]; exact (mid_rng m).2.2.2.2.1
    have q0 : 0 ≤ x.e / PE := Int.ediv_nonneg (by omega) (by omega)
    have q1 : x.e / PE ≤ x.e := Int.ediv_le_self _ (by omega)
    refine ro_div (n := 250) (by omega) (bits (10 ^ 60) (by decide +kernel) (by omega)) (by decide) ?_
    fail "xt"
    refine ro_mulW (m := 250) (n := 250) (bits (10 ^ 60) (by decide +kernel) (by omega)) (bits (10 ^ 60) (by decide +kernel) (by omega)) (by decide) ?_
    fail "xt"
    exact fun H' z => k.e0 z)
theorem ok_count_best (T : Tx P K mg c) : DefT P w K mg base CX0 11 "count_best" (spCountBest c) := T.count_best.ok bi_count_best (fkd_count_best T)
theorem fkd_is_best (T : Tx P K mg c) : ∀ f fd, Fun K "is_best" "is_best" s_is_best f fd → Fk P w K mg base CX0 11 f fd ["route", "index", "at"] (spIsBest c) := fun f fd F =>
  fk_body F sc_is_best lo_is_best pl_is_best (by (conv => lhs; whnf)) (fun vs H Q E h => by obtain ⟨a, dx, U, ls, i, x, t, rfl, _⟩ := h; rfl) (fun X bd ns H vs Q E h => by
    obtain ⟨a, dx, U, ls, i, x, t, rfl, hR, hx, k⟩ := h
    have nm := bd.nm
    have hB := T.blt
    have d1 := ok_sides (P := P) (w := w) (base := base) T
    have d2 := ok_Line_every (P := P) (w := w) (base := base) T
    have d3 := ok_best_block (P := P) (w := w) (base := base) T
    have d4 := ok_is_below (P := P) (w := w) (base := base) T
    have lnl : Ln c c.l := .inl rfl
    have lnx := Ln.of c x.k
    have m := leg_mid hR.ok (leg_n hx)
    obtain ⟨P0, _, _, _, _, _⟩ := mid_rng m
    have al : Alls (Leg.o c) (ls.map (Leg.o c)) ls := .self
    have ix : At (ls.map (Leg.o c)) x.a (lineO (c.of x.k) x.d x.e x.t x.r) := al x (List.mem_of_getElem? hx)
    have rh : RtL c ((a, routeO c.r dx U) :: (U, .tup (ls.map Leg.v)) :: ls.map (Leg.o c)) a dx U ls := ⟨.here, .there .here, .there (.there .self), hR.ok⟩
    with_reducible refine wb_go (M := fun _ => False) (L := (a, routeO c.r dx U) :: (U, .tup (ls.map Leg.v)) :: ls.map (Leg.o c)) (σ := [some (.ref a), some (.int i), some (.int t), none, none, none, none, none, none]) ?e hR.any ?_
    (case e => rfl)
    fail "x"
    refine rs_sides rh hx (fun s p dp r dr ns np nr => ?_)
    fail "x"
    refine rs_bestBlock (sides_thr m ix.there.there) (fun q nq => ?_)
    obtain ⟨FF, eF⟩ : ∃ z, (bestT (befT (ls.map Leg.n) i) x.n (aftT (ls.map Leg.n) i)).1 = z := ⟨_, rfl⟩
    obtain ⟨LN, eL⟩ : ∃ z, (bestT (befT (ls.map Leg.n) i) x.n (aftT (ls.map Leg.n) i)).2.1 = z := ⟨_, rfl⟩
    obtain ⟨PE, eP⟩ : ∃ z, (bestT (befT (ls.map Leg.n) i) x.n (aftT (ls.map Leg.n) i)).2.2 = z := ⟨_, rfl⟩
    rw [show tpO (bestT (befT (ls.map Leg.n) i) x.n (aftT (ls.map Leg.n) i)) = .tup [.int FF, .int LN, .int PE] by rw [← eF, ← eL, ← eP]]
    rw [show isBestB (befT (ls.map Leg.n) i) x.n (aftT (ls.map Leg.n) i) t = (decide (0 ≤ t ∧ t < x.e) && decide ((t - FF) % PE < LN)) by unfold isBestB; rw [← eF, ← eL, ← eP]] at k
    rw [eP] at P0
    fail "x"
    refine rs_below ?_
    by_cases hb : 0 ≤ t ∧ t < x.e
    · rw [decide_eq_true hb] at k ⊢
      rw [Bool.true_and] at k
      fail "x"
      exact fun H' z => k.e0 z
    · rw [decide_eq_false hb] at k ⊢
      rw [Bool.false_and] at k
      fail "x"
      exact fun H' z => k.e0 z)
theorem ok_is_best (T : Tx P K mg c) : DefT P w K mg base CX0 11 "is_best" (spIsBest c) := T.is_best.ok bi_is_best (fkd_is_best T)
theorem fkd_nth_best (T : Tx P K mg c) : ∀ f fd, Fun K "nth_best" "nth_best" s_nth_best f fd → Fk P w K mg base CX0 13 f fd ["route", "index", "number"] (spNthBest c) := fun f fd F =>
  fk_body F sc_nth_best lo_nth_best pl_nth_best (by (conv => lhs; whnf)) (fun vs H Q E h => by obtain ⟨a, dx, U, ls, i, x, n, rfl, _⟩ := h; rfl) (fun X bd ns H vs Q E h => by
    obtain ⟨a, dx, U, ls, i, x, n, rfl, hR, hx, xb, n0, n1, k⟩ := h
    have nm := bd.nm
    have hB := T.blt
    have d1 := ok_sides (P := P) (w := w) (base := base) T
    have d2 := ok_count_best (P := P) (w := w) (base := base) T
    have d3 := ok_best_block (P := P) (w := w) (base := base) T
    have d4 := ok_is_below (P := P) (w := w) (base := base) T
    have lnl : Ln c c.l := .inl rfl
    have lnx := Ln.of c x.k
    have m := leg_mid hR.ok (leg_n hx)
    obtain ⟨P0, _, _, _, L0, _⟩ := mid_rng m
    have mc := (mid_count m).2
    have al : Alls (Leg.o c) (ls.map (Leg.o c)) ls := .self
    have ix : At (ls.map (Leg.o c)) x.a (lineO (c.of x.k) x.d x.e x.t x.r) := al x (List.mem_of_getElem? hx)
    have rh : RtL c ((a, routeO c.r dx U) :: (U, .tup (ls.map Leg.v)) :: ls.map (Leg.o c)) a dx U ls := ⟨.here, .there .here, .there (.there .self), hR.ok⟩
    with_reducible refine wb_go (M := fun _ => False) (L := (a, routeO c.r dx U) :: (U, .tup (ls.map Leg.v)) :: ls.map (Leg.o c)) (σ := [some (.ref a), some (.int i), some (.int n), none, none, none, none, none, none, none, none, none]) ?e hR.any ?_
    (case e => rfl)
    obtain ⟨CT, eC⟩ : ∃ z, bestC (befT (ls.map Leg.n) i) x.n (aftT (ls.map Leg.n) i) = z := ⟨_, rfl⟩
    have n2 : n ≤ 1000000000000000000000000000000000000000000000000000000000000 := by
      have : bestC (befT (ls.map Leg.n) i) x.n (aftT (ls.map Leg.n) i) ≤ x.e := mc
      omega
    rw [eC] at n1
    fail "x"
    refine rs_countBest rh hx xb eC ?_
    fail "x"
    refine rs_below ?_
    rw [decide_eq_true (show 0 ≤ n ∧ n < CT from ⟨n0, n1⟩)]
    fail "x"
    refine kb_nil' ?_
    fail "x"
    refine rs_sides rh hx (fun s p dp r dr ns np nr => ?_)
    fail "x"
    refine rs_bestBlock (sides_thr m ix.there.there) (fun q nq => ?_)
    obtain ⟨FF, eF⟩ : ∃ z, (bestT (befT (ls.map Leg.n) i) x.n (aftT (ls.map Leg.n) i)).1 = z := ⟨_, rfl⟩
    obtain ⟨LN, eL⟩ : ∃ z, (bestT (befT (ls.map Leg.n) i) x.n (aftT (ls.map Leg.n) i)).2.1 = z := ⟨_, rfl⟩
    obtain ⟨PE, eP⟩ : ∃ z, (bestT (befT (ls.map Leg.n) i) x.n (aftT (ls.map Leg.n) i)).2.2 = z := ⟨_, rfl⟩
    rw [show tpO (bestT (befT (ls.map Leg.n) i) x.n (aftT (ls.map Leg.n) i)) = .tup [.int FF, .int LN, .int PE] by rw [← eF, ← eL, ← eP]]
    rw [show bestN (befT (ls.map Leg.n) i) x.n (aftT (ls.map Leg.n) i) n = nthV FF LN PE n by rw [← eF, ← eL, ← eP]] at k
    rw [eP] at P0
    rw [eL] at L0
    fail "x"
    refine cb_divmod (bd.gl rfl) (bd.no (hB _ (by fail "mem"))) rfl rfl ?_
    fail "x"
    refine rc_divmod n0 n2 L0 (fun t nt => ?_)
    unfold nthV placeV beyondV at k
    obtain ⟨u1, eu1⟩ : ∃ z, n / LN = z := ⟨_, rfl⟩
    obtain ⟨u2, eu2⟩ : ∃ z, n % LN = z := ⟨_, rfl⟩
    rw [eu1, eu2] at k
    rw [eu1, eu2]
    fail "x"
    have u10 : 0 ≤ u1 := by rw [← eu1]; exact Int.ediv_nonneg n0 (by omega)
    have u11 : u1 ≤ n := by rw [← eu1]; exact Int.ediv_le_self _ n0
    have pe : PE ≤ x.e := by rw [← eP]; exact Int.le_of_dvd m.ox.e1 (mid_rng m).2.1
    obtain ⟨bb, ebb⟩ : ∃ z, (if FF + LN - PE > 0 then FF + LN - PE else 0) = z := ⟨_, rfl⟩
    rw [ebb] at k
    rw [ebb]
    refine pickB_dec (fun h => ?_) (fun h => ?_)
    · rw [if_pos h] at k
      fail "x"
      refine ro_mulW (m := 250) (n := 250) (bits (10 ^ 60) (by decide +kernel) (by omega)) (bits (10 ^ 60) (by decide +kernel) (by omega)) (by decide) ?_
      fail "x"
      exact fun H' z => k.e0 z
    · rw [if_neg h] at k
      refine kb_nil' ?_
      fail "x"
      refine ro_mulW (m := 250) (n := 250) (bits (10 ^ 60) (by decide +kernel) (by omega)) (bits (10 ^ 60) (by decide +kernel) (by omega)) (by decide) ?_
      fail "x"
      rw [show u1 * PE + FF + u2 - bb = u1 * PE + (FF + u2 - bb) by omega]
      exact fun H' z => k.e0 z)
theorem ok_nth_best (T : Tx P K mg c) : DefT P w K mg base CX0 13 "nth_best" (spNthBest c) := T.nth_best.ok bi_nth_best (fkd_nth_best T)
end

/-! ### departures that are none -/
theorem _root_.Xi.RaiP.on {H0 H : Hp} {E : XK} {C : Addr} {L : LL} (k : RaiP H0 E C) (z : Hs H0 (fun _ => False) L H) : RaiP H E C := fun H' e => k H' fun b u h => e b u (z.ext0 b u h)
abbrev NoLeg (ls : List Leg) (i : Int) : Prop := ¬ (0 ≤ i ∧ i < (ls.length : Int))
/-- an object that is no departure of a headway -/
def BadAt (K : PySem.W.Frag) (H : Hp) (e : Int) (y : V) : Prop := (∃ t : Int, y = .int t ∧ ¬ (0 ≤ t ∧ t < e)) ∨ ∃ tp b, TyX K H y tp ∧ PySem.W.kitOne K tp (.type "int") = some b ∧ (b = true → PySem.W.kitOne K tp (.type "bool") = some true)
theorem tyx_ext {K : PySem.W.Frag} {H H' : Hp} (h : Ext H H') {x : V} {t : Value} (ty : TyX K H x t) : TyX K H' x t := by
  cases ty with
  | base b =>
    refine .base ?_
    cases b with
    | non => exact .non
    | bl => exact .bl _
    | int => exact .int _
    | str => exact .str _
    | flt => exact .flt _
    | lst e => exact .lst (h _ _ e)
    | frz e => exact .frz (h _ _ e)
    | tup e => exact .tup (h _ _ e)
    | dK e => exact .dK (h _ _ e)
    | dT e => exact .dT (h _ _ e)
    | ins e a b c d f => exact .ins (h _ _ e) a b c d f
  | byt b => exact .byt b
  | set e => exact .set (h _ _ e)
  | kList e c => exact .kList e c
  | kTuple e c => exact .kTuple e c
  | kDict e c => exact .kDict e c
  | fTuple e => exact .fTuple (h _ _ e)
  | fDict e => exact .fDict (h _ _ e)
theorem BadAt.ext {K : PySem.W.Frag} {H H' : Hp} {e : Int} {y : V} (b : BadAt K H e y) (h : Ext H H') : BadAt K H' e y := by
  rcases b with b | ⟨tp, b, ty, k⟩
  · exact .inl b
  · exact .inr ⟨tp, b, tyx_ext h ty, k⟩
def spBadLeg (c : Cs3) : Sp := fun vs H Q E => ∃ (a dx T : Addr) (ls : List Leg) (i : Int), vs = [.ref a, .int i] ∧ RtH c H a dx T ls ∧ NoLeg ls i ∧ RaiP H E c.x.InvalidIndex
def spBadInt (K : PySem.W.Frag) : Sp := fun vs H Q _ => ∃ y tp b, vs = [y] ∧ TyX K H y tp ∧ PySem.W.kitOne K tp (.type "int") = some b ∧ (b = true → PySem.W.kitOne K tp (.type "bool") = some true) ∧ RetP H Q (.bl false) []
def spBadBelow (K : PySem.W.Frag) : Sp := fun vs H Q _ => ∃ y e, vs = [y, .int e] ∧ BadAt K H e y ∧ RetP H Q (.bl false) []
section
variable {c : Cs3} {K : PySem.W.Frag} {H0 : Hp} {M : Addr → Prop} {L : LL} {Q : V → LL → Prop} {a dx T : Addr} {ls : List Leg} {i : Int} {n : Nat} {x : Leg} {y : V} {e : Int} {E : XK}
theorem rs_badLeg (h : RtL c L a dx T ls) (n : NoLeg ls i) (k : ∀ H, Hs H0 M L H → RaiP H E c.x.InvalidIndex) : rs H0 M (spBadLeg c) E [.ref a, .int i] L Q := fun H z => ⟨a, dx, T, ls, i, rfl, h.get z, n, k H z⟩
theorem rs_badInt {tp : Value} {b : Bool} (h : ∀ H, Hs H0 M L H → TyX K H y tp) (k1 : PySem.W.kitOne K tp (.type "int") = some b) (k2 : b = true → PySem.W.kitOne K tp (.type "bool") = some true) (q : Q (.bl false) L) : rs H0 M (spBadInt K) E [y] L Q := fun H z => ⟨y, tp, b, rfl, h H z, k1, k2, z.p0 q⟩
theorem rs_badBelow (h : ∀ H, Hs H0 M L H → BadAt K H e y) (q : Q (.bl false) L) : rs H0 M (spBadBelow K) E [y, .int e] L Q := fun H z => ⟨y, e, rfl, h H z, z.p0 q⟩
end

section
variable {P : Program} {w : World} {K : PySem.W.Frag} {mg : Str → Option Value} {base : Heap} {c : Cs3}
theorem bad_is_integer (T : Tx P K mg c) : DefT P w K mg base CX0 1 "is_integer" (spBadInt K) :=
  T.is_integer.ok bi_is_integer fun f fd F => fk_body F sc_is_integer lo_is_integer pl_is_integer (by (conv => lhs; whnf)) (fun vs H Q E h => by obtain ⟨y, tp, b, rfl, _⟩ := h; rfl) (fun X bd ns H vs Q E h => by
    obtain ⟨y, tp, b, rfl, ty, k1, k2, k⟩ := h
    have nm := bd.nm
    with_reducible refine wb_go (M := fun _ => False) (L := []) (σ := [some y]) ?e .s0 ?_
    (case e => rfl)
    have hB := T.blt
    fail "x"
    refine ke_c (pe_bltn (v := .ty "int") (bd.gl rfl) (bd.no (hB _ (by fail "mem"))) bo_int rfl) ?_
    fail "x"
    refine rc_isi (.ty "int") (fun H' z => tyx_ext z.ext0 (bd.K ▸ ty)) (bd.K ▸ k1) ?_
    cases b
    · refine ⟨false, rfl, nofun, fun _ => ?_⟩
      exact fun H' z => k.e0 z
    · refine pick_T ?_
      fail "x"
      refine ke_c (pe_bltn (v := .ty "bool") (bd.gl rfl) (bd.no (hB _ (by fail "mem"))) bo_bool rfl) ?_
      fail "x"
      refine rc_isi (.ty "bool") (fun H' z => tyx_ext z.ext0 (bd.K ▸ ty)) (bd.K ▸ k2 rfl) ?_
      fail "x"
      exact fun H' z => k.e0 z)
theorem bad_is_below (T : Tx P K mg c) : DefT P w K mg base CX0 3 "is_below" (spBadBelow K) :=
  T.is_below.ok bi_is_below fun f fd F => fk_body F sc_is_below lo_is_below pl_is_below (by (conv => lhs; whnf)) (fun vs H Q E h => by obtain ⟨y, e, rfl, _⟩ := h; rfl) (fun X bd ns H vs Q E h => by
    obtain ⟨y, e, rfl, hb, k⟩ := h
    have nm := bd.nm
    have hB := T.blt
    with_reducible refine wb_go (M := fun _ => False) (L := []) (σ := [some y, some (.int e)]) ?e .s0 ?_
    (case e => rfl)
    rcases hb with ⟨t, rfl, ht⟩ | ⟨tp, b, ty, k1, k2⟩
    · have d1 := ok_is_integer (P := P) (w := w) (base := base) T
      fail "x"
      refine pick_dec (fun h0 => ?_) (fun h0 => ?_)
      · fail "x"
        rw [show decide (t < e) = false from decide_eq_false fun z => ht ⟨h0, z⟩]
        exact fun H' z => k.e0 z
      · exact fun H' z => k.e0 z
    · have d1 := bad_is_integer (P := P) (w := w) (base := base) T
      fail "x"
      refine rs_badInt (fun H' z => tyx_ext z.ext0 ty) k1 k2 ?_
      refine ⟨false, rfl, nofun, fun _ => ?_⟩
      exact fun H' z => k.e0 z)
theorem bad_check_leg (T : Tx P K mg c) : DefT P w K mg base (L2N.CX P w) 3 "check_leg" (spBadLeg c) :=
  T.check_leg.okX bi_check_leg fun f fd F => fk_bodyX F sc_check_leg lo_check_leg pl_check_leg (by (conv => lhs; whnf)) (fun vs H Q E h => by obtain ⟨a, dx, U, ls, i, rfl, _⟩ := h; rfl) (fun X bd ns H vs Q E tk h => by
    obtain ⟨a, dx, U, ls, i, rfl, hR, h0, k⟩ := h
    have nm := bd.nm
    have hB := T.blt
    have hK : RtK X.K c.r := by rw [bd.K]; exact T.rt
    have d1 := ok_is_below (P := P) (w := w) (base := base) T
    have d2 := ok_Route_len (P := P) (w := w) (base := base) T
    have rh : RtL c ((a, routeO c.r dx U) :: (U, .tup (ls.map Leg.v)) :: ls.map (Leg.o c)) a dx U ls := ⟨.here, .there .here, .there (.there .self), hR.ok⟩
    with_reducible refine wb_go (M := fun _ => False) (L := (a, routeO c.r dx U) :: (U, .tup (ls.map Leg.v)) :: ls.map (Leg.o c)) (σ := [some (.ref a), some (.int i)]) ?e hR.any ?_
    (case e => rfl)
    fail "x"
    have n60 : ls.length ≤ 60 := by have := hR.ok.n2; rw [List.length_map] at this; exact this
    refine bd.lenO d2 rfl rh.o rfl (Nat.le_trans n60 (by decide)) (rs_rlen rh ⟨rfl, ?_⟩)
    fail "x"
    refine rs_below ?_
    rw [decide_eq_false h0]
    fail "x"
    exact kb_seq (ks_raise bd tk T.xInvalidIndex T.rInvalidIndex rfl fun H z => k.e0 z))
end

def spIdx3 (c : Cs3) : Sp := fun vs H Q E => ∃ (a dx T : Addr) (ls : List Leg) (i : Int) (y : V), vs = [.ref a, .int i, y] ∧ RtH c H a dx T ls ∧ NoLeg ls i ∧ RaiP H E c.x.InvalidIndex
/-- no number of a best departure -/
abbrev NoNum (ls : List Leg) (i : Nat) (x : Leg) (n : Int) : Prop := ¬ (0 ≤ n ∧ n < bestC (befT (ls.map Leg.n) i) x.n (aftT (ls.map Leg.n) i))
def spNum3 (c : Cs3) : Sp := fun vs H Q E => ∃ (a dx T : Addr) (ls : List Leg) (i : Nat) (x : Leg) (n : Int), vs = [.ref a, .int i, .int n] ∧ RtH c H a dx T ls ∧ ls[i]? = some x ∧ x.e ≤ 1000000000000000000000000000000000000000000000000000000000000 ∧ NoNum ls i x n ∧ RaiP H E c.x.InvalidNumber
def spIsNot (K : PySem.W.Frag) (c : Cs3) : Sp := fun vs H Q _ => ∃ (a dx T : Addr) (ls : List Leg) (i : Nat) (x : Leg) (y : V), vs = [.ref a, .int i, y] ∧ RtH c H a dx T ls ∧ ls[i]? = some x ∧ BadAt K H x.e y ∧ RetP H Q (.bl false) []
def spAsk38 (c : Cs3) : Sp := fun vs H Q _ => ∃ (door : Int) (a dx T : Addr) (ls : List Leg) (i : Int) (y : V) (r : Str), vs = [.int door, .ref a, .int i, y] ∧ RtH c H a dx T ls ∧
  ((NoLeg ls i ∧ r = "index") ∨ (∃ (n : Nat) (x : Leg) (t : Int), i = n ∧ ls[n]? = some x ∧ x.e ≤ 1000000000000000000000000000000000000000000000000000000000000 ∧ y = .int t ∧ NoNum ls n x t ∧ (door = 3 ∨ door = 7) ∧ r = "number") ∨
   (∃ (n : Nat) (x : Leg) (t : Int), i = n ∧ ls[n]? = some x ∧ x.e ≤ 1000000000000000000000000000000000000000000000000000000000000 ∧ y = .int t ∧ 0 ≤ t ∧ t < bestC (befT (ls.map Leg.n) n) x.n (aftT (ls.map Leg.n) n) ∧ r = "good")) ∧ RetP H Q (.str r) []
section
variable {c : Cs3} {K : PySem.W.Frag} {H0 : Hp} {M : Addr → Prop} {L : LL} {Q : V → LL → Prop} {a dx T : Addr} {ls : List Leg} {i t door : Int} {n : Nat} {x : Leg} {y : V} {E : XK}
theorem rs_idx3 (h : RtL c L a dx T ls) (n : NoLeg ls i) (k : ∀ H, Hs H0 M L H → RaiP H E c.x.InvalidIndex) : rs H0 M (spIdx3 c) E [.ref a, .int i, y] L Q := fun H z => ⟨a, dx, T, ls, i, y, rfl, h.get z, n, k H z⟩
theorem rs_num3 (h : RtL c L a dx T ls) (hx : ls[n]? = some x) (hb : x.e ≤ 1000000000000000000000000000000000000000000000000000000000000) (hn : NoNum ls n x t) (k : ∀ H, Hs H0 M L H → RaiP H E c.x.InvalidNumber) : rs H0 M (spNum3 c) E [.ref a, .int n, .int t] L Q := fun H z => ⟨a, dx, T, ls, n, x, t, rfl, h.get z, hx, hb, hn, k H z⟩
theorem rs_isNot (h : RtL c L a dx T ls) (hx : ls[n]? = some x) (b : ∀ H, Hs H0 M L H → BadAt K H x.e y) (k : Q (.bl false) L) : rs H0 M (spIsNot K c) E [.ref a, .int n, y] L Q := fun H z => ⟨a, dx, T, ls, n, x, y, rfl, h.get z, hx, b H z, z.p0 k⟩
theorem rs_askI (h : RtL c L a dx T ls) (f : NoLeg ls i) (k : Q (.str "index") L) : rs H0 M (spAsk38 c) E [.int door, .ref a, .int i, y] L Q := fun H z => ⟨door, a, dx, T, ls, i, y, _, rfl, h.get z, .inl ⟨f, rfl⟩, z.p0 k⟩
theorem rs_askN (h : RtL c L a dx T ls) (e : i = (n : Int)) (hx : ls[n]? = some x) (hb : x.e ≤ 1000000000000000000000000000000000000000000000000000000000000) (hn : NoNum ls n x t) (hd : door = 3 ∨ door = 7) (k : Q (.str "number") L) : rs H0 M (spAsk38 c) E [.int door, .ref a, .int i, .int t] L Q := fun H z => ⟨door, a, dx, T, ls, i, _, _, rfl, h.get z, .inr (.inl ⟨n, x, t, e, hx, hb, rfl, hn, hd, rfl⟩), z.p0 k⟩
theorem rs_askG (h : RtL c L a dx T ls) (e : i = (n : Int)) (hx : ls[n]? = some x) (hb : x.e ≤ 1000000000000000000000000000000000000000000000000000000000000) (t0 : 0 ≤ t) (t1 : t < bestC (befT (ls.map Leg.n) n) x.n (aftT (ls.map Leg.n) n)) (k : Q (.str "good") L) : rs H0 M (spAsk38 c) E [.int door, .ref a, .int i, .int t] L Q := fun H z => ⟨door, a, dx, T, ls, i, _, _, rfl, h.get z, .inr (.inr ⟨n, x, t, e, hx, hb, rfl, t0, t1, rfl⟩), z.p0 k⟩
end

section
variable {P : Program} {w : World} {K : PySem.W.Frag} {mg : Str → Option Value} {base : Heap} {c : Cs3}
theorem bad_sides (T : Tx P K mg c) : DefT P w K mg base (L2N.CX P w) 4 "sides" (spBadLeg c) :=
  T.sides.okX bi_sides fun f fd F => fk_bodyX F sc_sides lo_sides pl_sides (by (conv => lhs; whnf)) (fun vs H Q E h => by obtain ⟨a, dx, U, ls, i, rfl, _⟩ := h; rfl) (fun X bd ns H vs Q E tk h => by
    obtain ⟨a, dx, U, ls, i, rfl, hR, h0, k⟩ := h
    have nm := bd.nm
    have rh : RtL c ((a, routeO c.r dx U) :: (U, .tup (ls.map Leg.v)) :: ls.map (Leg.o c)) a dx U ls := ⟨.here, .there .here, .there (.there .self), hR.ok⟩
    with_reducible refine wb_go (M := fun _ => False) (L := (a, routeO c.r dx U) :: (U, .tup (ls.map Leg.v)) :: ls.map (Leg.o c)) (σ := [some (.ref a), some (.int i), none]) ?e hR.any ?_
    (case e => rfl)
    fail "x"
    refine bd.callX tk (bad_check_leg (P := P) (w := w) (base := base) T) rfl rfl rfl rfl ?_ rfl
    fail "x"
    exact rs_badLeg rh h0 fun H z => k.on z)
theorem fkx_best_ride (T : Tx P K mg c) : ∀ f fd, Fun K "best_ride" "best_ride" s_best_ride f fd → Fk P w K mg base (L2N.CX P w) 6 f fd ["route", "index"] (spBadLeg c) := fun f fd F =>
  fk_bodyX F sc_best_ride lo_best_ride pl_best_ride (by (conv => lhs; whnf)) (fun vs H Q E h => by obtain ⟨a, dx, U, ls, i, rfl, _⟩ := h; rfl) (fun X bd ns H vs Q E tk h => by
    obtain ⟨a, dx, U, ls, i, rfl, hR, h0, k⟩ := h
    have nm := bd.nm
    have rh : RtL c ((a, routeO c.r dx U) :: (U, .tup (ls.map Leg.v)) :: ls.map (Leg.o c)) a dx U ls := ⟨.here, .there .here, .there (.there .self), hR.ok⟩
    with_reducible refine wb_go (M := fun _ => False) (L := (a, routeO c.r dx U) :: (U, .tup (ls.map Leg.v)) :: ls.map (Leg.o c)) (σ := [some (.ref a), some (.int i), none, none, none]) ?e hR.any ?_
    (case e => rfl)
    fail "x"
    refine bd.callX tk (bad_sides (P := P) (w := w) (base := base) T) rfl rfl rfl rfl ?_ rfl
    fail "x"
    exact rs_badLeg rh h0 fun H z => k.on z)
theorem fkx_count_best (T : Tx P K mg c) : ∀ f fd, Fun K "count_best" "count_best" s_count_best f fd → Fk P w K mg base (L2N.CX P w) 6 f fd ["route", "index"] (spBadLeg c) := fun f fd F =>
  fk_bodyX F sc_count_best lo_count_best pl_count_best (by (conv => lhs; whnf)) (fun vs H Q E h => by obtain ⟨a, dx, U, ls, i, rfl, _⟩ := h; rfl) (fun X bd ns H vs Q E tk h => by
    obtain ⟨a, dx, U, ls, i, rfl, hR, h0, k⟩ := h
    have nm := bd.nm
    have rh : RtL c ((a, routeO c.r dx U) :: (U, .tup (ls.map Leg.v)) :: ls.map (Leg.o c)) a dx U ls := ⟨.here, .there .here, .there (.there .self), hR.ok⟩
    with_reducible refine wb_go (M := fun _ => False) (L := (a, routeO c.r dx U) :: (U, .tup (ls.map Leg.v)) :: ls.map (Leg.o c)) (σ := [some (.ref a), some (.int i), none, none, none, none, none]) ?e hR.any ?_
    (case e => rfl)
    fail "x"
    refine bd.callX tk (bad_sides (P := P) (w := w) (base := base) T) rfl rfl rfl rfl ?_ rfl
    fail "x"
    exact rs_badLeg rh h0 fun H z => k.on z)
theorem bad_count_best (T : Tx P K mg c) : DefT P w K mg base (L2N.CX P w) 6 "count_best" (spBadLeg c) := T.count_best.okX bi_count_best (fkx_count_best T)
theorem fkx_is_best (T : Tx P K mg c) : ∀ f fd, Fun K "is_best" "is_best" s_is_best f fd → Fk P w K mg base (L2N.CX P w) 6 f fd ["route", "index", "at"] (spIdx3 c) := fun f fd F =>
  fk_bodyX F sc_is_best lo_is_best pl_is_best (by (conv => lhs; whnf)) (fun vs H Q E h => by obtain ⟨a, dx, U, ls, i, y, rfl, _⟩ := h; rfl) (fun X bd ns H vs Q E tk h => by
    obtain ⟨a, dx, U, ls, i, y, rfl, hR, h0, k⟩ := h
    have nm := bd.nm
    have rh : RtL c ((a, routeO c.r dx U) :: (U, .tup (ls.map Leg.v)) :: ls.map (Leg.o c)) a dx U ls := ⟨.here, .there .here, .there (.there .self), hR.ok⟩
    with_reducible refine wb_go (M := fun _ => False) (L := (a, routeO c.r dx U) :: (U, .tup (ls.map Leg.v)) :: ls.map (Leg.o c)) (σ := [some (.ref a), some (.int i), some y, none, none, none, none, none, none]) ?e hR.any ?_
    (case e => rfl)
    fail "x"
    refine bd.callX tk (bad_sides (P := P) (w := w) (base := base) T) rfl rfl rfl rfl ?_ rfl
    fail "x"
    exact rs_badLeg rh h0 fun H z => k.on z)
theorem fkx_nth_best (T : Tx P K mg c) : ∀ f fd, Fun K "nth_best" "nth_best" s_nth_best f fd → Fk P w K mg base (L2N.CX P w) 8 f fd ["route", "index", "number"] (spIdx3 c) := fun f fd F =>
  fk_bodyX F sc_nth_best lo_nth_best pl_nth_best (by (conv => lhs; whnf)) (fun vs H Q E h => by obtain ⟨a, dx, U, ls, i, y, rfl, _⟩ := h; rfl) (fun X bd ns H vs Q E tk h => by
    obtain ⟨a, dx, U, ls, i, y, rfl, hR, h0, k⟩ := h
    have nm := bd.nm
    have d1 := ok_is_below (P := P) (w := w) (base := base) T
    have rh : RtL c ((a, routeO c.r dx U) :: (U, .tup (ls.map Leg.v)) :: ls.map (Leg.o c)) a dx U ls := ⟨.here, .there .here, .there (.there .self), hR.ok⟩
    with_reducible refine wb_go (M := fun _ => False) (L := (a, routeO c.r dx U) :: (U, .tup (ls.map Leg.v)) :: ls.map (Leg.o c)) (σ := [some (.ref a), some (.int i), some y, none, none, none, none, none, none, none, none, none]) ?e hR.any ?_
    (case e => rfl)
    fail "x"
    refine bd.callX tk (bad_count_best (P := P) (w := w) (base := base) T) rfl rfl rfl rfl ?_ rfl
    fail "x"
    exact rs_badLeg rh h0 fun H z => k.on z)
theorem fkx_nth_num (T : Tx P K mg c) : ∀ f fd, Fun K "nth_best" "nth_best" s_nth_best f fd → Fk P w K mg base (L2N.CX P w) 13 f fd ["route", "index", "number"] (spNum3 c) := fun f fd F =>
  fk_bodyX F sc_nth_best lo_nth_best pl_nth_best (by (conv => lhs; whnf)) (fun vs H Q E h => by obtain ⟨a, dx, U, ls, i, x, n, rfl, _⟩ := h; rfl) (fun X bd ns H vs Q E tk h => by
    obtain ⟨a, dx, U, ls, i, x, n, rfl, hR, hx, xb, hn, k⟩ := h
    have nm := bd.nm
    have d1 := ok_is_below (P := P) (w := w) (base := base) T
    have d2 := ok_count_best (P := P) (w := w) (base := base) T
    have rh : RtL c ((a, routeO c.r dx U) :: (U, .tup (ls.map Leg.v)) :: ls.map (Leg.o c)) a dx U ls := ⟨.here, .there .here, .there (.there .self), hR.ok⟩
    with_reducible refine wb_go (M := fun _ => False) (L := (a, routeO c.r dx U) :: (U, .tup (ls.map Leg.v)) :: ls.map (Leg.o c)) (σ := [some (.ref a), some (.int i), some (.int n), none, none, none, none, none, none, none, none, none]) ?e hR.any ?_
    (case e => rfl)
    fail "x"
    refine rs_countBest rh hx xb rfl ?_
    fail "x"
    refine rs_below ?_
    rw [decide_eq_false hn]
    fail "x"
    exact kb_seq (ks_raise bd tk T.xInvalidNumber T.rInvalidNumber rfl fun H z => k.on z _ (fun _ _ e => e)))
theorem ok_is_not (T : Tx P K mg c) : DefT P w K mg base CX0 11 "is_best" (spIsNot K c) :=
  T.is_best.ok bi_is_best fun f fd F => fk_body F sc_is_best lo_is_best pl_is_best (by (conv => lhs; whnf)) (fun vs H Q E h => by obtain ⟨a, dx, U, ls, i, x, y, rfl, _⟩ := h; rfl) (fun X bd ns H vs Q E h => by
    obtain ⟨a, dx, U, ls, i, x, y, rfl, hR, hx, hy, k⟩ := h
    have nm := bd.nm
    have hB := T.blt
    have d1 := ok_sides (P := P) (w := w) (base := base) T
    have d2 := ok_Line_every (P := P) (w := w) (base := base) T
    have d3 := ok_best_block (P := P) (w := w) (base := base) T
    have d4 := bad_is_below (P := P) (w := w) (base := base) T
    have lnl : Ln c c.l := .inl rfl
    have lnx := Ln.of c x.k
    have m := leg_mid hR.ok (leg_n hx)
    obtain ⟨P0, _, _, _, _, _⟩ := mid_rng m
    have al : Alls (Leg.o c) (ls.map (Leg.o c)) ls := .self
    have ix : At (ls.map (Leg.o c)) x.a (lineO (c.of x.k) x.d x.e x.t x.r) := al x (List.mem_of_getElem? hx)
    have rh : RtL c ((a, routeO c.r dx U) :: (U, .tup (ls.map Leg.v)) :: ls.map (Leg.o c)) a dx U ls := ⟨.here, .there .here, .there (.there .self), hR.ok⟩
    with_reducible refine wb_go (M := fun _ => False) (L := (a, routeO c.r dx U) :: (U, .tup (ls.map Leg.v)) :: ls.map (Leg.o c)) (σ := [some (.ref a), some (.int i), some y, none, none, none, none, none, none]) ?e hR.any ?_
    (case e => rfl)
    fail "x"
    refine rs_sides rh hx (fun s p dp r dr ns np nr => ?_)
    fail "x"
    refine rs_bestBlock (sides_thr m ix.there.there) (fun q nq => ?_)
    obtain ⟨FF, eF⟩ : ∃ z, (bestT (befT (ls.map Leg.n) i) x.n (aftT (ls.map Leg.n) i)).1 = z := ⟨_, rfl⟩
    obtain ⟨LN, eL⟩ : ∃ z, (bestT (befT (ls.map Leg.n) i) x.n (aftT (ls.map Leg.n) i)).2.1 = z := ⟨_, rfl⟩
    obtain ⟨PE, eP⟩ : ∃ z, (bestT (befT (ls.map Leg.n) i) x.n (aftT (ls.map Leg.n) i)).2.2 = z := ⟨_, rfl⟩
    rw [show tpO (bestT (befT (ls.map Leg.n) i) x.n (aftT (ls.map Leg.n) i)) = .tup [.int FF, .int LN, .int PE] by rw [← eF, ← eL, ← eP]]
    fail "x"
    refine rs_badBelow (fun H' z => hy.ext z.ext0) ?_
    fail "x"
    exact fun H' z => k.e0 z)
/-- the classes -/
theorem cls_index (T : Tx P K mg c) : DefE P w K mg base 1 "_law_class" c.x.InvalidIndex (.str "index") :=
  T.class_.okE bi_class_ fun f fd F => fke_of F sc_class_ lo_class_ pl_class_ (by (conv => lhs; whnf)) rfl (fun X a H be => by
    have hB := T.blt
    have mi : mg ("isinstance" : Str) = none := hB _ (by fail "mem")
    have mv : mg ("ValueError" : Str) = none := hB _ (by fail "mem")
    have l : Lk ["e"] [some (V.ref a)] "e" (.ref a) := .here
    refine kb_seq (ks_if (be.isT T.eInvalidIndex rfl mi List.mem_cons_self l (.cons T.xInvalidFixed.gm rfl rfl (.cons T.xInvalidLine.gm rfl rfl (.cons T.xInvalidRoute.gm rfl rfl (.cons T.xInvalidText.gm rfl rfl (.cons T.xInvalidWishes.gm rfl rfl (.cons T.xNotFitting.gm rfl rfl (.cons T.xNothingToUndo.gm rfl rfl .nil))))))) rfl
      (kitAny_cons T.kInvalidIndex_InvalidFixed (fun _ => kitAny_cons T.kInvalidIndex_InvalidLine (fun _ => kitAny_cons T.kInvalidIndex_InvalidRoute (fun _ => kitAny_cons T.kInvalidIndex_InvalidText (fun _ => kitAny_cons T.kInvalidIndex_InvalidWishes (fun _ => kitAny_cons T.kInvalidIndex_NotFitting (fun _ => kitAny_cons T.kInvalidIndex_NothingToUndo (fun _ => rfl) nofun) nofun) nofun) nofun) nofun) nofun) nofun) fun L1 => pickB_F (kb_nil' ?_)))
    refine kb_seq (ks_if (kt_w (kw_or (be.is1 T.eInvalidIndex rfl mi List.mem_cons_self l T.xNotPossible.gm rfl rfl T.kInvalidIndex_NotPossible (pickB_F (kw_or1 (kt_not (be.isB T.eInvalidIndex rfl mi List.mem_cons_self l mv bo_VE (by decide) rfl rfl T.vInvalidIndex (pickB_nT (kb_nil' ?_))))))))))
    refine kb_seq (ks_if (be.is1 T.eInvalidIndex rfl mi List.mem_cons_self l T.xInvalidIndex.gm rfl rfl T.kInvalidIndex_InvalidIndex (pickB_T ?_)))
    exact kb_seq (ks_ret (ke_if (be.is1 T.eInvalidIndex rfl mi List.mem_cons_self l T.xInvalidNumber.gm rfl rfl T.kInvalidIndex_InvalidNumber (pickB_F (ke_str rfl))))))
theorem cls_number (T : Tx P K mg c) : DefE P w K mg base 1 "_law_class" c.x.InvalidNumber (.str "number") :=
  T.class_.okE bi_class_ fun f fd F => fke_of F sc_class_ lo_class_ pl_class_ (by (conv => lhs; whnf)) rfl (fun X a H be => by
    have hB := T.blt
    have mi : mg ("isinstance" : Str) = none := hB _ (by fail "mem")
    have mv : mg ("ValueError" : Str) = none := hB _ (by fail "mem")
    have l : Lk ["e"] [some (V.ref a)] "e" (.ref a) := .here
    refine kb_seq (ks_if (be.isT T.eInvalidNumber rfl mi List.mem_cons_self l (.cons T.xInvalidFixed.gm rfl rfl (.cons T.xInvalidLine.gm rfl rfl (.cons T.xInvalidRoute.gm rfl rfl (.cons T.xInvalidText.gm rfl rfl (.cons T.xInvalidWishes.gm rfl rfl (.cons T.xNotFitting.gm rfl rfl (.cons T.xNothingToUndo.gm rfl rfl .nil))))))) rfl
      (kitAny_cons T.kInvalidNumber_InvalidFixed (fun _ => kitAny_cons T.kInvalidNumber_InvalidLine (fun _ => kitAny_cons T.kInvalidNumber_InvalidRoute (fun _ => kitAny_cons T.kInvalidNumber_InvalidText (fun _ => kitAny_cons T.kInvalidNumber_InvalidWishes (fun _ => kitAny_cons T.kInvalidNumber_NotFitting (fun _ => kitAny_cons T.kInvalidNumber_NothingToUndo (fun _ => rfl) nofun) nofun) nofun) nofun) nofun) nofun) nofun) fun L1 => pickB_F (kb_nil' ?_)))
    refine kb_seq (ks_if (kt_w (kw_or (be.is1 T.eInvalidNumber rfl mi List.mem_cons_self l T.xNotPossible.gm rfl rfl T.kInvalidNumber_NotPossible (pickB_F (kw_or1 (kt_not (be.isB T.eInvalidNumber rfl mi List.mem_cons_self l mv bo_VE (by decide) rfl rfl T.vInvalidNumber (pickB_nT (kb_nil' ?_))))))))))
    refine kb_seq (ks_if (be.is1 T.eInvalidNumber rfl mi List.mem_cons_self l T.xInvalidIndex.gm rfl rfl T.kInvalidNumber_InvalidIndex (pickB_F (kb_nil' ?_))))
    exact kb_seq (ks_ret (ke_if (be.is1 T.eInvalidNumber rfl mi List.mem_cons_self l T.xInvalidNumber.gm rfl rfl T.kInvalidNumber_InvalidNumber (pickB_T (ke_str rfl))))))
theorem ok_asked (T : Tx P K mg c) : DefT P w K mg base CX0 14 "_law_asked" (spAsk38 c) :=
  T.asked.ok bi_asked fun f fd F => fk_bodyT F sc_asked lo_asked pl_asked (by (conv => lhs; whnf)) (fun vs H Q E h => by obtain ⟨door, a, dx, U, ls, i, y, r, rfl, _⟩ := h; rfl) (fun X bd ns fr H vs Q E h => by
    obtain ⟨door, a, dx, U, ls, i, y, r, rfl, hR, alt, k⟩ := h
    have hB := T.blt
    have rh : RtL c ((a, routeO c.r dx U) :: (U, .tup (ls.map Leg.v)) :: ls.map (Leg.o c)) a dx U ls := ⟨.here, .there .here, .there (.there .self), hR.ok⟩
    with_reducible refine wb_go (M := fun _ => False) (L := (a, routeO c.r dx U) :: (U, .tup (ls.map Leg.v)) :: ls.map (Leg.o c)) (σ := [some (.int door), some (.ref a), some (.int i), some y, none]) ?e hR.any ?_
    (case e => rfl)
    rcases alt with ⟨ft, rfl⟩ | ⟨n, x, t, rfl, hx, hb, rfl, hn, hd, rfl⟩ | ⟨n, x, t, rfl, hx, hb, rfl, t0, t1, rfl⟩
    · refine kb_seq (ks_try (i := 4) (n := "e") (fun cls d _ => cls = .ref c.x.InvalidIndex ∧ d = none) bd ns fr rfl rfl T.xHeadwayError.gm rfl (fun X' bd' ns' tk => ?_) (fun cls d σ' L' q => ?_))
      · have nm := bd'.nm
        have d1 := T.best_ride.okX bi_best_ride (fkx_best_ride (P := P) (w := w) (base := base) T)
        have d2 := T.count_best.okX bi_count_best (fkx_count_best (P := P) (w := w) (base := base) T)
        have d3 := T.is_best.okX bi_is_best (fkx_is_best (P := P) (w := w) (base := base) T)
        have d4 := T.nth_best.okX bi_nth_best (fkx_nth_best (P := P) (w := w) (base := base) T)
        have e1 := T.best_ride.okKX (ks := ["index", "route"]) (g := @gR2) kr_best_ride_gR2 (fkx_best_ride (P := P) (w := w) (base := base) T)
        have e2 := T.count_best.okKX (ks := ["index", "route"]) (g := @gR2) kr_count_best_gR2 (fkx_count_best (P := P) (w := w) (base := base) T)
        have e3 := T.is_best.okKX (ks := ["at", "index", "route"]) (g := @gR3) kr_is_best_gR3 (fkx_is_best (P := P) (w := w) (base := base) T)
        have e4 := T.nth_best.okKX (ks := ["number", "index", "route"]) (g := @gR3) kr_nth_best_gR3 (fkx_nth_best (P := P) (w := w) (base := base) T)
        clear bd
        fail "x"
        refine pickB_dec (fun h => ?_) (fun h => ?_)
        · fail "x"
          refine bd'.callX tk d1 rfl rfl rfl rfl ?_ rfl
          fail "x"
          exact rs_badLeg rh ft fun H z H' e => ⟨_, z.ext e, rfl, rfl⟩
        fail "x"
        refine pickB_dec (fun h => ?_) (fun h => ?_)
        · fail "x"
          refine bd'.callX tk d2 rfl rfl rfl rfl ?_ rfl
          fail "x"
          exact rs_badLeg rh ft fun H z H' e => ⟨_, z.ext e, rfl, rfl⟩
        fail "x"
        refine pickB_dec (fun h => ?_) (fun h => ?_)
        · fail "x"
          refine bd'.callX tk d3 rfl rfl rfl rfl ?_ rfl
          fail "x"
          exact rs_idx3 rh ft fun H z H' e => ⟨_, z.ext e, rfl, rfl⟩
        fail "x"
        refine pickB_dec (fun h => ?_) (fun h => ?_)
        · fail "x"
          refine bd'.callX tk d4 rfl rfl rfl rfl ?_ rfl
          fail "x"
          exact rs_idx3 rh ft fun H z H' e => ⟨_, z.ext e, rfl, rfl⟩
        fail "x"
        refine pickB_dec (fun h => ?_) (fun h => ?_)
        · fail "x"
          refine bd'.callKX2 tk e1 rfl rfl rfl rfl rfl ?_ rfl
          fail "x"
          exact rs_badLeg rh ft fun H z H' e => ⟨_, z.ext e, rfl, rfl⟩
        fail "x"
        refine pickB_dec (fun h => ?_) (fun h => ?_)
        · fail "x"
          refine bd'.callKX2 tk e2 rfl rfl rfl rfl rfl ?_ rfl
          fail "x"
          exact rs_badLeg rh ft fun H z H' e => ⟨_, z.ext e, rfl, rfl⟩
        fail "x"
        refine pickB_dec (fun h => ?_) (fun h => ?_)
        · fail "x"
          refine bd'.callKX3 tk e3 rfl rfl rfl rfl rfl ?_ rfl
          fail "x"
          exact rs_idx3 rh ft fun H z H' e => ⟨_, z.ext e, rfl, rfl⟩
        · fail "x"
          refine bd'.callKX3 tk e4 rfl rfl rfl rfl rfl ?_ rfl
          fail "x"
          exact rs_idx3 rh ft fun H z H' e => ⟨_, z.ext e, rfl, rfl⟩
      · obtain ⟨rfl, rfl⟩ := q
        exact ⟨T.mInvalidIndex, fun a2 oe pn hz hf => kb_retE bd (cls_index (P := P) (w := w) (base := base) T) rfl rfl hz hf rfl (by fail "mem") fun H' z => k.e0 z⟩
    · refine kb_seq (ks_try (i := 4) (n := "e") (fun cls d _ => cls = .ref c.x.InvalidNumber ∧ d = none) bd ns fr rfl rfl T.xHeadwayError.gm rfl (fun X' bd' ns' tk => ?_) (fun cls d σ' L' q => ?_))
      · have nm := bd'.nm
        have d4 := T.nth_best.okX bi_nth_best (fkx_nth_num (P := P) (w := w) (base := base) T)
        have e4 := T.nth_best.okKX (ks := ["number", "index", "route"]) (g := @gR3) kr_nth_best_gR3 (fkx_nth_num (P := P) (w := w) (base := base) T)
        clear bd
        rcases hd with rfl | rfl
        · fail "x"
          refine bd'.callX tk d4 rfl rfl rfl rfl ?_ rfl
          fail "x"
          exact rs_num3 rh hx hb hn fun H z H' e => ⟨_, z.ext e, rfl, rfl⟩
        · fail "x"
          refine bd'.callKX3 tk e4 rfl rfl rfl rfl rfl ?_ rfl
          fail "x"
          exact rs_num3 rh hx hb hn fun H z H' e => ⟨_, z.ext e, rfl, rfl⟩
      · obtain ⟨rfl, rfl⟩ := q
        exact ⟨T.mInvalidNumber, fun a2 oe pn hz hf => kb_retE bd (cls_number (P := P) (w := w) (base := base) T) rfl rfl hz hf rfl (by fail "mem") fun H' z => k.e0 z⟩
    · refine kb_cut (fun _ _ => True) ?_ ?_
      · refine ks_try0 bd ns fun X' bd' ns' => ?_
        have nm := bd'.nm
        have d1 := ok_best_ride (P := P) (w := w) (base := base) T
        have d2 := ok_count_best (P := P) (w := w) (base := base) T
        have d3 := ok_is_best (P := P) (w := w) (base := base) T
        have d4 := ok_nth_best (P := P) (w := w) (base := base) T
        have e1 := T.best_ride.okK (ks := ["index", "route"]) (g := @gR2) kr_best_ride_gR2 (fkd_best_ride (P := P) (w := w) (base := base) T)
        have e2 := T.count_best.okK (ks := ["index", "route"]) (g := @gR2) kr_count_best_gR2 (fkd_count_best (P := P) (w := w) (base := base) T)
        have e3 := T.is_best.okK (ks := ["at", "index", "route"]) (g := @gR3) kr_is_best_gR3 (fkd_is_best (P := P) (w := w) (base := base) T)
        have e4 := T.nth_best.okK (ks := ["number", "index", "route"]) (g := @gR3) kr_nth_best_gR3 (fkd_nth_best (P := P) (w := w) (base := base) T)
        clear bd
        fail "x"
        refine pickB_dec (fun h => ?_) (fun h => ?_)
        · fail "x"
          exact rs_bestRide rh hx rfl (by fail "y"; exact trivial)
        fail "x"
        refine pickB_dec (fun h => ?_) (fun h => ?_)
        · fail "x"
          exact rs_countBest rh hx hb rfl (by fail "y"; exact trivial)
        fail "x"
        refine pickB_dec (fun h => ?_) (fun h => ?_)
        · fail "x"
          exact rs_isBest rh hx rfl (by fail "y"; exact trivial)
        fail "x"
        refine pickB_dec (fun h => ?_) (fun h => ?_)
        · fail "x"
          exact rs_nthBest rh hx hb t0 t1 rfl (by fail "y"; exact trivial)
        fail "x"
        refine pickB_dec (fun h => ?_) (fun h => ?_)
        · fail "x"
          exact rs_bestRide rh hx rfl (by fail "y"; exact trivial)
        fail "x"
        refine pickB_dec (fun h => ?_) (fun h => ?_)
        · fail "x"
          exact rs_countBest rh hx hb rfl (by fail "y"; exact trivial)
        fail "x"
        refine pickB_dec (fun h => ?_) (fun h => ?_)
        · fail "x"
          exact rs_isBest rh hx rfl (by fail "y"; exact trivial)
        · fail "x"
          exact rs_nthBest rh hx hb t0 t1 rfl (by fail "y"; exact trivial)
      · rintro σ L -
        have nm := bd.nm
        fail "y"
        exact fun H' z => k.e0 z)
end

/-- {} -/
theorem ke_dnew {X : Cx} {H0 : Hp} {M : Addr → Prop} {L : LL} {σ : L2.St} {Q : V → LL → Prop} {pos : Pos} (h : New H0 (.dK []) L Q) : ke X H0 M (.Dict [] [] pos) σ L Q := fun H z => we_of pe_dnewK (new_up z h)
def PutD (p : Addr) (x : Str) (y : V) (L2 : LL) (Q : V → LL → Prop) : Prop := ∃ g, Spot L2 p (.dK []) g ∧ Q (.ref p) (g (.dK [(.inr x, y)]))
theorem putD {p : Addr} {x : Str} {y : V} {L2 : LL} {Q : V → LL → Prop} {g : HO → LL} (s : Spot L2 p (.dK []) g) (h : Q (.ref p) (g (.dK [(.inr x, y)]))) : PutD p x y L2 Q := ⟨g, s, h⟩
/-- {k: v}, k a text, v anything -/
theorem ke_dict1g {X : Cx} {H0 : Hp} {M : Addr → Prop} {L : LL} {σ : L2.St} {Q : V → LL → Prop} {v : Expr} {pos p1 : Pos} {x : Str} {i : Nat}
    (h : ∀ p, H0 p = none → ke X H0 M v σ ((p, .dK []) :: L) fun y L2 => PutD p x y L2 Q) : ke X H0 M (.Dict [some (.Constant (.str x) i p1)] [v] pos) σ L Q := fun H z =>
  we_of (pe_disp (pps_cons pe_we pe_we pps_nil) rfl rfl (by simp) (show 1 ≤ 15 by decide)) fun p n => by
    have z1 : Hs H0 M ((p, .dK []) :: L) (upd H p (.dK [])) := z.new n
    refine we_mono ((ke_str ⟨rfl, rfl⟩ : ke X H0 M (.Constant (.str x) i p1) σ ((p, .dK []) :: L) fun u L2 => u = .str x ∧ L2 = (p, .dK []) :: L) _ z1) fun u H1 ⟨L1, z2, e1, e2⟩ => ?_
    subst e1 e2
    refine we_mono (h p (z.fresh n) H1 z2) fun u H2 ⟨L2, z3, g, sp, q⟩ => ?_
    exact ⟨z3.at_ _ sp.mem, [(.inr x, u)], rfl, (show 1 ≤ 15 by decide), _, z3.put sp (.inl (z.fresh n)), q⟩
theorem front {L : LL} {a : Addr} {o : HO} (h : At L a o) : ∃ B, ((a, o) :: B).Perm L ∧ ∀ b u, At L b u → u ≠ o → At B b u := by
  induction h with
  | @here L a o => exact ⟨L, .refl _, fun b u h n => by
      cases h with
      | here => exact absurd rfl n
      | there h => exact h⟩
  | @there L a o q h ih =>
    obtain ⟨B, p, k⟩ := ih
    refine ⟨q :: B, (List.Perm.swap _ _ _).trans (.cons _ p), fun b u h n => ?_⟩
    cases h with
    | here => exact .here
    | there h => exact .there (k b u h n)
theorem gns_rows38 {L : LL} {rs : List TRow} (h : Alls TRow.o L rs) : Gns L (rs.map TRow.v) ((rs.map TRow.n).map tpD) := by
  rw [List.map_map]
  exact gns_map fun x hx => gn_tp (h x hx)
theorem kg_subL {X : Cx} {H0 : Hp} {M : Addr → Prop} {L L' : LL} {σ : L2.St} {tg : Expr} {v : V} {Pc : L2.St → LL → Prop} (s : Sub L' L) (h : kg X H0 M tg v σ L' Pc) : kg X H0 M tg v σ L Pc := fun H z => h H (z.sub s)
theorem rows_nf {rs : List TRow} {a b d : Int} (h : 1 ≤ rs.length) : HO.lst (rs.map TRow.v) ≠ feedO a b d := fun z => by
  cases rs with
  | nil => simp at h
  | cons x r => cases z
section
variable {K : PySem.W.Frag} {H0 : Hp} {M : Addr → Prop} {L : LL} {e : Int}
abbrev BadL (K : PySem.W.Frag) (H0 : Hp) (M : Addr → Prop) (L : LL) (e : Int) (x : V) : Prop := ∀ H', Hs H0 M L H' → BadAt K H' e x
theorem bad_ty {x : V} {T : String} (h : ∀ H', Hs H0 M L H' → TyX K H' x (.type T)) (k : kitB T "int" = some false) : BadL K H0 M L e x := fun H' z => .inr ⟨_, _, h H' z, kit_ty k, nofun⟩
theorem bad_bl {b : Bool} : BadL K H0 M L e (.bl b) := fun _ _ => .inr ⟨_, _, .base (.bl _), kit_ty (r := true) (by decide +kernel), fun _ => kit_ty (by decide +kernel)⟩
theorem bad_int {t : Int} (h : ¬ (0 ≤ t ∧ t < e)) : BadL K H0 M L e (.int t) := fun _ _ => .inl ⟨t, rfl, h⟩
theorem BadL.sub {L' : LL} {x : V} (h : BadL K H0 M L' e x) (s : Sub L' L) : BadL K H0 M L e x := fun H' z => h H' (z.sub s)
end
theorem rs_rightT {H0 : Hp} {M : Addr → Prop} {L : LL} {Q : V → LL → Prop} {f R : Addr} {a b d most : Int} {is : List Int} {vs : List V} {rs' : List TRow} {E : XK} {g : HO → LL} (s : Spot L f (feedO a b d) g) (iR : At L R (.lst vs)) (ev : vs = rs'.map TRow.v) (al : Alls TRow.o L rs') (cc : H0 f = none ∨ M f) (ha : 0 ≤ a) (hb : 0 ≤ b) (hb1 : b ≤ 1000000000000000000000000000000000000000000) (hd : 0 ≤ d) (hd1 : d ≤ 10000000000000000000000000000) (hm : most ≤ 100000000000000000000000000000000000000000000000000000000000) (ok : ChainOk most is) (hr : TRowsOk most is rs') (n1 : 1 ≤ rs'.length) (n60 : rs'.length ≤ 60)
    (q : ∀ a' d', 0 ≤ a' → d ≤ d' → d' ≤ d + 1000 → Q (.bl true) (g (feedO a' b d'))) : rs H0 M spRightT E [.ref f, .ref R] L Q :=
  fun H z => ⟨f, R, a, b, d, most, is, rs', rfl, z.at_ _ s.mem, by rw [← ev]; exact z.get iR, al.get z, ha, hb, hb1, hd, hd1, hm, ok, hr, n1, n60, fun a' d' h1 h2 h3 => z.c0 s cc (q a' d' h1 h2 h3)⟩
local macro_rules | `(tactic| fail "asg") => `(tactic| ((with_reducible refine kb_seq ?_); (with_reducible refine' Body.asgT ?bd ?hs ?hw ?h1 ?h); (case bd => (with_reducible assumption)); (case hs => (intro env he; cases env; cases he; rfl)); (case hw => (intro env he; cases env; cases he; rfl)); (case h1 => rfl)))

section
variable {P : Program} {w : World} {K : PySem.W.Frag} {mg : Str → Option Value} {base : Heap} {c : Cs3}
local macro_rules | `(tactic| fail "nx") => `(tactic| ((with_reducible apply rs_next); (fail "spot"); (fail "mark"); (omega); (omega); (omega); (omega); (omega); (omega); (omega); (intro _ _ _ _ _ _ _ _)))
local macro_rules | `(tactic| fail "x") => `(tactic| repeat first | fail "1" | fail "nx")
theorem ok_right (T : Tx P K mg c) : DefT P w K mg base CX0 16 "_law_right" spRightT :=
  T.right.ok bi_right fun f fd F => fk_body F sc_right lo_right pl_right (by (conv => lhs; whnf)) (fun vs H Q E h => by obtain ⟨f, R, a, b, d, most, is, rs, rfl, _⟩ := h; rfl) (fun X bd ns H vs Q E h => by
    obtain ⟨fe, R, a, bt, d, most, is, rs', rfl, hf, hR, hl, ha, hb, hb1, hd, hd1, hmost, ok, hr, n1, n60, k⟩ := h
    have nm := bd.nm
    have hB := T.blt
    have d1 := ok_next (P := P) (w := w) (base := base) T
    have d2 := ok_route (P := P) (w := w) (base := base) T
    have d3 := ok_asked (P := P) (w := w) (base := base) T
    have d4 := ok_count_best (P := P) (w := w) (base := base) T
    have d5 := ok_nth_best (P := P) (w := w) (base := base) T
    have d13 := ok_Route_legs (P := P) (w := w) (base := base) T
    have d14 := ok_Line_every (P := P) (w := w) (base := base) T
    have d15 := ok_Line_at (P := P) (w := w) (base := base) T
    have d16 := ok_Line_ride (P := P) (w := w) (base := base) T
    have al : Alls TRow.o (rs'.map TRow.o) rs' := .self
    have rt := hr.rt ok n1 n60
    with_reducible refine wb_go (M := fun x => x = fe) (L := (fe, feedO a bt d) :: (R, .lst (rs'.map TRow.v)) :: rs'.map TRow.o) (σ := [some (.ref fe), some (.ref R), none, none, none, none, none, none, none, none, none]) ?e (rows_entryT hf hR hl) ?_
    (case e => rfl)
    fail "asg"
    fail "x"
    refine rs_routeT (.there .here) rfl al.there.there rt (fun w0 U dw ls f2 nw nU => ?_)
    generalize eL : ((w0, routeO c.r dw U) :: _ : LL) = Lx
    have iF : At Lx fe (feedO a bt d) := by rw [← eL]; exact .there (.there (.app_r .here))
    have iR : At Lx R (.lst (rs'.map TRow.v)) := by rw [← eL]; exact .there (.there (.app_r (.there .here)))
    have iA : Alls TRow.o Lx rs' := by rw [← eL]; exact .there (.there (.app_r (.there (.there .self))))
    have iW : RtL c Lx w0 dw U ls := by rw [← eL]; exact ⟨.here, .there .here, .there (.there (.app_l .self)), by rw [mdeT_n f2]; exact rt⟩
    clear eL
    obtain ⟨B0, pF, kF⟩ := front iF
    refine ka_subP pF (.refl _) ?_
    replace iR := kF _ _ iR (rows_nf (by omega))
    replace iA : Alls TRow.o B0 rs' := fun y hy => kF _ _ (iA y hy) nofun
    replace iW : RtL c B0 w0 dw U ls := ⟨kF _ _ iW.o nofun, kF _ _ iW.t nofun, fun y hy => kF _ _ (iW.l y hy) nofun, iW.ok⟩
    clear kF pF iF
    have en := mdeT_n f2
    have ll : ls.length = rs'.length := (F2.len f2).symm
    have l0 : (rs'.map TRow.v).length = rs'.length := List.length_map _
    fail "x"
    obtain ⟨m, em⟩ : ∃ m : Nat, (rs'.map TRow.v).length = m := ⟨_, rfl⟩
    rw [em]
    rw [em] at l0
    refine kb_seq (ks_for bd.own bd.calm (by intro _; rfl) ?_)
    refine ki_list ?_
    fail "x"
    rename_i pt npt pb npb
    obtain ⟨BL, eBL⟩ : ∃ BL, ([-1, -2, 0 - (m : Int), -1 - (m : Int), (m : Int), (m : Int) + 1, 60, 100000000000000000000000000000000000000000000000000000000000, 0 - 100000000000000000000000000000000000000000000000000000000000] : List Int) = BL := ⟨_, rfl⟩
    have hBL : ∀ z ∈ BL, NoLeg ls z := by
      rw [← eBL]
      rintro z hz ⟨h0, h1⟩
      simp only [List.mem_cons, List.not_mem_nil, or_false] at hz
      omega
    refine ⟨pb, BL.map V.int, rfl, by rw [← eBL]; exact .here, fun J wk => ⟨_, _, _, fun i σ L => ∃ (o4 o5 : Option V), Sub ((pb, .lst (BL.map V.int)) :: (fe, feedO a bt d) :: B0) L ∧ σ = [some (V.ref fe), some (V.ref R), some (V.ref w0), some (V.int m), o4, o5, none, none, none, none, none], wk, ⟨_, _, by rw [← eBL]; exact .cons₂ _ (.cons _ (.refl _)), rfl⟩, ?_, ?_, ?_⟩⟩
    · rintro i σ L hi ⟨o4, o5, sb, _⟩
      exact .sub sb .here
    · rintro i v σ L L' hi ⟨o4, o5, sb, rfl⟩ ⟨rfl, hv⟩
      rw [List.getElem?_map] at hv
      obtain ⟨z, hz, rfl⟩ := Option.map_eq_some_iff.mp hv
      have nz := hBL z (List.mem_of_getElem? hz)
      refine kg_subL sb ?_
      fail "x"
      refine kb_seq (ks_for bd.own bd.calm (by intro _; rfl) ?_)
      refine ki_list ?_
      fail "x"
      rename_i pS npS
      refine ⟨pS, _, rfl, .here, fun J2 wk2 => ⟨_, _, _, fun j σ L => ∃ (o5 : Option V), Sub ((pS, .lst [.int 0, .int (-1), .int 100000000000000000000000000000000000000000000000000000000000, .int (0 - 100000000000000000000000000000000000000000000000000000000000)]) :: (pb, .lst (BL.map V.int)) :: (fe, feedO a bt d) :: B0) L ∧ σ = [some (V.ref fe), some (V.ref R), some (V.ref w0), some (V.int m), some (V.int z), o5, none, none, none, none, none], wk2, ⟨_, .refl _, rfl⟩, ?_, ?_, ?_⟩⟩
      · rintro j σ L hj ⟨o5, sb2, _⟩
        exact .sub sb2 .here
      · rintro j v σ L L' hj ⟨o5, sb2, rfl⟩ ⟨rfl, hx⟩
        obtain ⟨p0, rfl⟩ : ∃ p0, v = .int p0 := by
          have := List.mem_of_getElem? hx
          simp only [List.mem_cons, List.not_mem_nil, or_false] at this
          rcases this with rfl | rfl | rfl | rfl <;> exact ⟨_, rfl⟩
        refine kg_subL sb2 ?_
        fail "x"
        refine Body.lcR bd ns [("door", 10)] ["door", "trip", "leg_at", "one"] ["door"] (fun _ => .str "index") ⟨rfl, by decide +kernel, by decide +kernel, by decide +kernel, by decide +kernel⟩ (by decide +kernel) (by decide +kernel) (by decide +kernel) (bd.gl rfl) (bd.no (hB _ (by fail "mem"))) rfl (by intro _; rfl) ?_
        fail "x"
        refine ⟨by decide, by decide, fun t ht D acc nD B bB nB => ?_, fun D nD => ?_⟩
        · rw [show wipe [some (V.ref fe), some (V.ref R), some (V.ref w0), some (V.int m), some (V.int z), some (V.int p0), none, none, none, none, none] _ = [some (V.ref fe), some (V.ref R), some (V.ref w0), some (V.int m), some (V.int z), some (V.int p0), none, none, none, none, none] from rfl]
          have nm1 := bB.nm
          fail "x"
          intro B2 bB2
          have nm2 := bB2.nm
          fail "x"
          refine rs_askI iW.there.there.there.there nz ?_
          exact ⟨rfl, .refl _⟩
        · fail "x"
          refine ro_rep1 .here (by decide) (by decide) (fun D8 nD8 => ?_)
          fail "x"
          exact kb_nil' (kb_nil (.cons _ (.cons _ (.cons _ (.refl _)))) ⟨_, .refl _, rfl⟩)
      · rintro σ L ⟨o5, sb2, rfl⟩
        refine kb_sub ((List.Sublist.cons _ (.refl _)).trans sb2) ?_
        refine kb_seq (ks_for bd.own bd.calm (by intro _; rfl) ?_)
        refine ki_list ?_
        fail "x"
        rename_i pQ npQ
        refine ⟨pQ, _, rfl, .here, fun J3 wk3 => ⟨_, _, _, fun j σ L => ∃ (o5 : Option V), Sub ((pQ, .lst [.non, .bl true, .str "0"]) :: (pb, .lst (BL.map V.int)) :: (fe, feedO a bt d) :: B0) L ∧ σ = [some (V.ref fe), some (V.ref R), some (V.ref w0), some (V.int m), some (V.int z), o5, none, none, none, none, none], wk3, ⟨_, .refl _, rfl⟩, ?_, ?_, ?_⟩⟩
        · rintro j σ L hj ⟨o5, sb3, _⟩
          exact .sub sb3 .here
        · rintro j v σ L L' hj ⟨o5, sb3, rfl⟩ ⟨rfl, hx⟩
          refine kg_subL sb3 ?_
          fail "x"
          refine Body.lcF false V.int bd ns [("door", 10)] ["door", "trip", "leg_at", "one"] ["door"] (fun _ => V.str "index") ⟨rfl, by decide +kernel, by decide +kernel, by decide +kernel, by decide +kernel⟩ (by decide +kernel) (by decide +kernel) (by decide +kernel) (by intro _; rfl) ?_
          fail "x"
          rename_i pD npD
          refine ⟨pD, [2, 6], rfl, .here, by decide, fun x8 hx8 D2 acc nD2 B bB nB => ?_, fun D2 nD2 => ?_⟩
          · rw [show wipe [some (V.ref fe), some (V.ref R), some (V.ref w0), some (V.int m), some (V.int z), some v, none, none, none, none, none] _ = [some (V.ref fe), some (V.ref R), some (V.ref w0), some (V.int m), some (V.int z), some v, none, none, none, none, none] from rfl]
            have nm1 := bB.nm
            fail "x"
            intro B2 bB2
            have nm2 := bB2.nm
            fail "x"
            refine rs_askI iW.there.there.there.there.there nz ?_
            exact ⟨rfl, .refl _⟩
          · rw [show ([2, 6] : List Int).map (fun _ => V.str "index") = [V.str "index", V.str "index"] from rfl]
            fail "x"
            refine ro_rep1 .here (by decide) (by decide) (fun D8 nD8 => ?_)
            fail "x"
            exact kb_nil' (kb_nil (.cons _ (.cons _ (.cons _ (.cons _ (.refl _))))) ⟨_, .refl _, rfl⟩)
        · rintro σ L ⟨o5, sb3, rfl⟩
          exact kb_nil ((List.Sublist.cons _ (.refl _)).trans sb3) ⟨_, _, .refl _, rfl⟩
    · rintro σ L ⟨o4, o5, sb, rfl⟩
      refine kb_sub ((List.Sublist.cons _ (.refl _)).trans sb) ?_
      clear hBL
      fail "x"
      rename_i r1 a1 c1 g1 g2 g3 g4 g5
      obtain ⟨i0, rfl⟩ := Int.eq_ofNat_of_zero_le g1
      have hi0 : i0 < ls.length := by omega
      obtain ⟨x, hx⟩ : ∃ x, ls[i0]? = some x := ⟨_, List.getElem?_eq_getElem hi0⟩
      obtain ⟨y, hy⟩ : ∃ y, rs'[i0]? = some y := ⟨_, List.getElem?_eq_getElem (show i0 < rs'.length by omega)⟩
      have exy : x.n = y.n := by
        have h1 := leg_n hx
        have h2 : (rs'.map TRow.n)[i0]? = some y.n := by rw [List.getElem?_map, hy]; rfl
        rw [en, h2] at h1
        exact (Option.some.inj h1).symm
      have exe : x.e = y.e := congrArg (·.1) exy
      have ym := List.mem_of_getElem? hy
      obtain ⟨y1, y2, y3, y4, y5, y6⟩ := hr.ok y ym
      have xb : x.e ≤ 1000000000000000000000000000000000000000000000000000000000000 := by omega
      have md := leg_mid iW.ok (leg_n hx)
      obtain ⟨mc1, mc2⟩ := mid_count md
      have mn0 := mid_nth md (Int.le_refl 0) (by omega)
      obtain ⟨CT, eC⟩ : ∃ z, bestC (befT (ls.map Leg.n) i0) x.n (aftT (ls.map Leg.n) i0) = z := ⟨_, rfl⟩
      obtain ⟨FN, eF⟩ : ∃ z, bestN (befT (ls.map Leg.n) i0) x.n (aftT (ls.map Leg.n) i0) 0 = z := ⟨_, rfl⟩
      replace mc1 : 1 ≤ CT := by rw [← eC]; exact mc1
      replace mc2 : CT ≤ x.e := by rw [← eC]; exact mc2
      have f1 : 0 ≤ FN := by rw [← eF]; exact mn0.1
      have f2' : FN < x.e := by rw [← eF]; exact mn0.2.1
      clear mn0
      refine rs_countBest iW.there hx xb eC ?_
      fail "x"
      refine kb_seq (ks_for bd.own bd.calm (by intro _; rfl) ?_)
      refine ki_list ?_
      fail "x"
      rename_i r2 a2 c2 g6 g7 g8 g9 g10 pc npc
      have noN : ∀ t ∈ ([-1, -2, 0 - CT, -1 - CT, CT, CT + 1, 100000000000000000000000000000000000000000000000000000000000, 0 - 100000000000000000000000000000000000000000000000000000000000, CT + r2] : List Int), NoNum ls i0 x t := by
        intro t ht
        unfold NoNum
        rw [eC]
        simp only [List.mem_cons, List.not_mem_nil, or_false] at ht
        omega
      refine ⟨pc, ([-1, -2, 0 - CT, -1 - CT, CT, CT + 1, 100000000000000000000000000000000000000000000000000000000000, 0 - 100000000000000000000000000000000000000000000000000000000000, CT + r2] : List Int).map V.int, rfl, .here, fun J2 wk2 => ⟨_, _, _, fun j σ L => ∃ (o5 : Option V), Sub ((pc, .lst (([-1, -2, 0 - CT, -1 - CT, CT, CT + 1, 100000000000000000000000000000000000000000000000000000000000, 0 - 100000000000000000000000000000000000000000000000000000000000, CT + r2] : List Int).map V.int)) :: (fe, feedO a2 bt c2) :: B0) L ∧ σ = [some (V.ref fe), some (V.ref R), some (V.ref w0), some (V.int m), some (V.int (i0 : Int)), o5, some (V.int CT), none, none, none, none], wk2, ⟨_, .refl _, rfl⟩, ?_, ?_, ?_⟩⟩
      · rintro j σ L hj ⟨o5, sb2, _⟩
        exact .sub sb2 .here
      · rintro j v σ L L' hj ⟨o5, sb2, rfl⟩ ⟨rfl, hv⟩
        rw [List.getElem?_map] at hv
        obtain ⟨t, ht, rfl⟩ := Option.map_eq_some_iff.mp hv
        have nt := noN t (List.mem_of_getElem? ht)
        refine kg_subL sb2 ?_
        fail "x"
        refine Body.lcF false V.int bd ns [("door", 10)] ["door", "trip", "leg_at", "one"] ["door"] (fun _ => V.str "number") ⟨rfl, by decide +kernel, by decide +kernel, by decide +kernel, by decide +kernel⟩ (by decide +kernel) (by decide +kernel) (by decide +kernel) (by intro _; rfl) ?_
        fail "x"
        rename_i pD npD
        refine ⟨pD, [3, 7], rfl, .here, by decide, fun x8 hx8 D2 acc nD2 B bB nB => ?_, fun D2 nD2 => ?_⟩
        · rw [show wipe [some (V.ref fe), some (V.ref R), some (V.ref w0), some (V.int m), some (V.int (i0 : Int)), some (V.int t), some (V.int CT), none, none, none, none] _ = [some (V.ref fe), some (V.ref R), some (V.ref w0), some (V.int m), some (V.int (i0 : Int)), some (V.int t), some (V.int CT), none, none, none, none] from rfl]
          have nm1 := bB.nm
          fail "x"
          intro B2 bB2
          have nm2 := bB2.nm
          fail "x"
          simp only [List.mem_cons, List.not_mem_nil, or_false] at hx8
          refine rs_askN iW.there.there.there.there rfl hx xb nt hx8 ?_
          exact ⟨rfl, .refl _⟩
        · rw [show ([3, 7] : List Int).map (fun _ => V.str "number") = [V.str "number", V.str "number"] from rfl]
          fail "x"
          refine ro_rep1 .here (by decide) (by decide) (fun D8 nD8 => ?_)
          fail "x"
          exact kb_nil' (kb_nil (.cons _ (.cons _ (.cons _ (.cons _ (.refl _))))) ⟨_, .refl _, rfl⟩)
      · rintro σ L ⟨o5, sb2, rfl⟩
        refine kb_sub ((List.Sublist.cons _ (.refl _)).trans sb2) ?_
        clear noN
        refine kb_seq (ks_for bd.own bd.calm (by intro _; rfl) ?_)
        refine ki_list ?_
        fail "x"
        rename_i r3 a3 c3 g11 g12 g13 g14 g15 pe npe
        have goN : ∀ t ∈ ([0, CT - 1, r3] : List Int), 0 ≤ t ∧ t < bestC (befT (ls.map Leg.n) i0) x.n (aftT (ls.map Leg.n) i0) := by
          intro t ht
          rw [eC]
          simp only [List.mem_cons, List.not_mem_nil, or_false] at ht
          omega
        refine ⟨pe, ([0, CT - 1, r3] : List Int).map V.int, rfl, .here, fun J3 wk3 => ⟨_, _, _, fun j σ L => ∃ (o5 : Option V), Sub ((pe, .lst (([0, CT - 1, r3] : List Int).map V.int)) :: (fe, feedO a3 bt c3) :: B0) L ∧ σ = [some (V.ref fe), some (V.ref R), some (V.ref w0), some (V.int m), some (V.int (i0 : Int)), o5, some (V.int CT), none, none, none, none], wk3, ⟨_, .refl _, rfl⟩, ?_, ?_, ?_⟩⟩
        · rintro j σ L hj ⟨o5, sb3, _⟩
          exact .sub sb3 .here
        · rintro j v σ L L' hj ⟨o5, sb3, rfl⟩ ⟨rfl, hv⟩
          rw [List.getElem?_map] at hv
          obtain ⟨t', ht', rfl⟩ := Option.map_eq_some_iff.mp hv
          obtain ⟨nt1, nt2⟩ := goN t' (List.mem_of_getElem? ht')
          refine kg_subL sb3 ?_
          fail "x"
          refine Body.lcR bd ns [("door", 10)] ["door", "trip", "leg_at", "one"] ["door"] (fun _ => .str "good") ⟨rfl, by decide +kernel, by decide +kernel, by decide +kernel, by decide +kernel⟩ (by decide +kernel) (by decide +kernel) (by decide +kernel) (bd.gl rfl) (bd.no (hB _ (by fail "mem"))) rfl (by intro _; rfl) ?_
          fail "x"
          refine ⟨by decide, by decide, fun t ht D acc nD B bB nB => ?_, fun D nD => ?_⟩
          · rw [show wipe [some (V.ref fe), some (V.ref R), some (V.ref w0), some (V.int m), some (V.int (i0 : Int)), some (V.int t'), some (V.int CT), none, none, none, none] _ = [some (V.ref fe), some (V.ref R), some (V.ref w0), some (V.int m), some (V.int (i0 : Int)), some (V.int t'), some (V.int CT), none, none, none, none] from rfl]
            have nm1 := bB.nm
            fail "x"
            intro B2 bB2
            have nm2 := bB2.nm
            fail "x"
            refine rs_askG iW.there.there.there rfl hx xb nt1 nt2 ?_
            exact ⟨rfl, .refl _⟩
          · fail "x"
            refine ro_rep1 .here (by decide) (by decide) (fun D8 nD8 => ?_)
            fail "x"
            exact kb_nil' (kb_nil (.cons _ (.cons _ (.cons _ (.refl _)))) ⟨_, .refl _, rfl⟩)
        · rintro σ L ⟨o5, sb3, rfl⟩
          refine kb_sub ((List.Sublist.cons _ (.refl _)).trans sb3) ?_
          clear goN
          have iy : At B0 y.a (tupO y.e y.t y.r) := iA y ym
          fail "x"
          refine rs_nthBest (n := 0) iW.there hx xb (Int.le_refl 0) (by rw [eC]; omega) eF ?_
          have f59 : FN.natAbs.log2 < 1920 := log_of (by omega)
          fail "x"
          refine rc_strI f59 ?_
          fail "x"
          with_reducible refine ke_dnew ?_
          intro pE npE
          fail "x"
          refine ix_lst (xs := rs'.map TRow.v) (v := y.v) (by fail "at") (atI_nat rfl (by rw [List.getElem?_map, hy]; rfl)) ?_
          fail "x"
          refine ix_tp (show At _ y.a (tupO y.e y.t y.r) by fail "at") rfl ?_
          fail "x"
          refine ix_lst (xs := rs'.map TRow.v) (v := y.v) (by fail "at") (atI_nat rfl (by rw [List.getElem?_map, hy]; rfl)) ?_
          fail "x"
          refine ix_tp (show At _ y.a (tupO y.e y.t y.r) by fail "at") rfl ?_
          fail "x"
          refine kb_seq (ks_for bd.own bd.calm (by intro _; rfl) ?_)
          refine ki_list ?_
          fail "x"
          refine ix_lst (xs := rs'.map TRow.v) (v := y.v) (by fail "at") (atI_nat rfl (by rw [List.getElem?_map, hy]; rfl)) ?_
          fail "x"
          refine ix_tp (show At _ y.a (tupO y.e y.t y.r) by fail "at") rfl ?_
          obtain ⟨x9, lt9, els⟩ : ∃ x9 lt9, ls = x9 :: lt9 := by
            cases hls : ls with
            | nil => rw [hls] at ll; rw [List.length_nil] at ll; omega
            | cons x9 lt9 => exact ⟨x9, lt9, rfl⟩
          have l9 : (ls.map Leg.v)[0]? = some x9.v := by rw [els]; rfl
          have m9 : x9 ∈ ls := by rw [els]; exact List.mem_cons_self
          have i9 : At B0 x9.a (lineO (c.of x9.k) x9.d x9.e x9.t x9.r) := iW.l x9 m9
          have oW := iW.o
          fail "x"
          refine ix_lst (xs := ls.map Leg.v) (v := x9.v) .here (atI_nat (k := 0) rfl l9) ?_
          fail "x"
          with_reducible refine ke_dict1g ?_
          intro pG npG
          fail "x"
          with_reducible refine putD (by fail "spot") ?_
          fail "x"
          refine ro_cat (by fail "at") (by fail "at") (by show 19 ≤ _; decide) (fun pO npO => ?_)
          generalize eL : ((pO, _) :: _ : LL) = B1
          have sB : Sub ((fe, feedO a3 bt c3) :: B0) B1 := by rw [← eL]; repeat (first | exact List.Sublist.refl _ | refine List.Sublist.cons _ ?_)
          obtain ⟨xs, iO, odd⟩ : ∃ xs, At B1 pO (.lst xs) ∧ ∀ v ∈ xs, BadL K H (fun x => x = fe) B1 x.e v := by
            rw [← eL]
            refine ⟨_, .here, fun v hv => ?_⟩
            simp only [List.cons_append, List.nil_append, List.mem_cons, List.not_mem_nil, or_false] at hv
            rcases hv with rfl | rfl | rfl | rfl | rfl | rfl | rfl | rfl | rfl | rfl | rfl | rfl | rfl | rfl | rfl | rfl | rfl | rfl | rfl
            · exact bad_ty (fun _ _ => .base .non) (by decide +kernel)
            · exact bad_bl
            · exact bad_bl
            · exact bad_ty (fun _ _ => .base (.str _)) (by decide +kernel)
            · exact bad_ty (fun _ _ => .base (.str _)) (by decide +kernel)
            · exact bad_ty (fun _ z => .base (.lst (z.get (by fail "at")))) (by decide +kernel)
            · exact bad_ty (fun _ z => .base (.tup (z.get (by fail "at")))) (by decide +kernel)
            · exact bad_ty (fun _ z => .base (.dK (z.get (by fail "at")))) (by decide +kernel)
            · exact bad_ty (fun _ _ => .base (.str _)) (by decide +kernel)
            · exact bad_int (by omega)
            · exact bad_int (by omega)
            · exact bad_int (by omega)
            · exact bad_int (by omega)
            · exact bad_int (by omega)
            · exact bad_int (by omega)
            · exact fun H' z => .inr ⟨_, _, .base (.ins (z.get (by fail "at")) T.rt.cls T.isr.ha T.is0.hn T.is0.ht T.isr.hm), T.kri, nofun⟩
            · exact fun H' z => .inr ⟨_, _, .base (.ins (z.get (show At _ x9.a (lineO (c.of x9.k) x9.d x9.e x9.t x9.r) by fail "at")) (T.ln _ (Ln.of c x9.k)).cls (T.isk _ (Ln.of c x9.k)).ha T.is0.hn T.is0.ht (T.isk _ (Ln.of c x9.k)).hm), T.kln _ (Ln.of c x9.k), nofun⟩
            · exact bad_ty (fun _ z => .base (.lst (z.get (by fail "at")))) (by decide +kernel)
            · exact bad_ty (fun _ z => .base (.dK (z.get (by fail "at")))) (by decide +kernel)
          clear eL
          rename_i pod npod
          refine ⟨pO, xs, rfl, iO, fun J4 wk4 => ⟨_, _, _, fun j σ L => ∃ (o5 o8 : Option V), L = B1 ∧ σ = [some (.ref fe), some (.ref R), some (.ref w0), some (.int m), some (.int (i0 : Int)), o5, some (.int CT), some (.int FN), o8, none, none], wk4, ⟨_, _, rfl, rfl⟩, ?_, ?_, ?_⟩⟩
          · rintro j σ L hj ⟨o5, o8, rfl, _⟩
            exact iO
          · rintro j v σ L L' hj ⟨o5, o8, rfl, rfl⟩ ⟨rfl, hv⟩
            have bv := odd v (List.mem_of_getElem? hv)
            have dN := ok_is_not (P := P) (w := w) (base := base) T
            have iWx : RtL c L' w0 dw U ls := ⟨.sub sB (.there iW.o), .sub sB (.there iW.t), fun y hy => .sub sB (.there (iW.l y hy)), iW.ok⟩
            fail "x"
            refine rs_isNot iWx hx bv ?_
            fail "x"
            exact kb_nil' (kb_nil (.refl _) ⟨_, _, rfl, rfl⟩)
          · rintro σ L ⟨o5, o8, rfl, rfl⟩
            refine kb_sub sB ?_
            clear sB iO odd
            fail "x"
            refine Body.lcMs false Leg.v Tp.v Tp.o (fun x t => t.n = x.n) bd ns [("leg", 9)] ["leg"] ["leg"] ⟨rfl, by decide +kernel, by decide +kernel, by decide +kernel, by decide +kernel⟩ (by decide +kernel) (by decide +kernel) (by decide +kernel) (by intro _; rfl) ?_
            fail "x"
            rename_i G nG
            refine ⟨G, ls, rfl, (show At _ _ (.lst _) from .here), by omega, fun x hx L0 lf B bB nB => ?_, fun D us nD fu nfu => ?_⟩
            · rw [show wipe [some (V.ref fe), some (V.ref R), some (V.ref w0), some (V.int m), some (V.int (i0 : Int)), o5, some (V.int CT), some (V.int FN), o8, none, none] _ = [some (V.ref fe), some (V.ref R), some (V.ref w0), some (V.int m), some (V.int (i0 : Int)), o5, some (V.int CT), some (V.int FN), o8, none, none] from rfl]
              have nm1 := bB.nm
              have ix : At L0 x.a (lineO (c.of x.k) x.d x.e x.t x.r) := .lift lf (.there (.there (iW.l x hx)))
              have lx : Ln c (c.of x.k) := Ln.of c x.k
              fail "x"
              intro B2 bB2
              have nm2 := bB2.nm
              fail "x"
              exact ⟨⟨_, x.n⟩, rfl, rfl, by assumption, .refl _⟩
            fail "cat"
            fail "x"
            have eN : us.map Tp.n = rs'.map TRow.n := by rw [← F2.map (f := Leg.n) (g := Tp.n) fu fun x y e => e.symm, en]
            refine gs_eqL bd.room .here (.there (.there (.there (.app_l iR)))) (gns_tp (ts := us) (Alls.there (Alls.there (Alls.there (.app_r .self))))) (gns_rows38 (Alls.there (Alls.there (Alls.there (.app_l iA))))) (by rw [eN]) ?_
            exact fun H' z => (k a3 c3 g13 (by omega) (by omega)).e0 z (by fail "at"))
theorem fk_law (T : Tx P K mg c) : ∀ f fd, Fun K "law" "law" s_law f fd → Fk P w K mg base CX0 17 f fd ["script"] (spLaw K) :=
  fun f fd F => fk_body F sc_law lo_law pl_law (by (conv => lhs; whnf)) (fun vs H Q E h => by obtain ⟨a, ns, rfl, _⟩ := h; rfl) (fun X bd ns H vs Q E h => by
    obtain ⟨a, nsc, rfl, sq, hl, k⟩ := h
    have nm := bd.nm
    have hB := T.blt
    rw [← bd.K] at sq
    have d1 := ok_tape (P := P) (w := w) (base := base) T
    have d2 := ok_next (P := P) (w := w) (base := base) T
    have d3 := ok_rows (P := P) (w := w) (base := base) T
    have d4 := ok_right (P := P) (w := w) (base := base) T
    with_reducible refine wb_go (M := fun _ => False) (L := []) (σ := [some (.ref a), none, none, none]) ?e .s0 ?_
    (case e => rfl)
    refine kb_seq (ks_for bd.own bd.calm (by intro _; rfl) ?_)
    refine ki_range1 (bd.gl rfl) (bd.no (hB _ (by fail "mem"))) rfl ?_
    fail "x"
    refine rc_lenR sq id ?_
    fail "x"
    refine ⟨by split <;> (try split) <;> omega, by split <;> (try split) <;> omega, fun J wk => ⟨_, _, _, fun i σ L => ∃ (o1 o2 o3 : Option V), L = [] ∧ σ = [some (.ref a), o1, o2, o3], wk, ⟨_, _, _, rfl, rfl⟩, fun _ _ _ _ _ => trivial, ?_, ?_⟩⟩
    · rintro i x σ L L' hi ⟨o1, o2, o3, rfl, rfl⟩ ⟨rfl, rfl⟩
      have hi4 : (i : Int) ≤ 900 := by omega
      fail "x"
      rw [bd.K] at sq
      refine rs_tape sq id (by omega) (by omega) (fun p ta tb np ha hb hb1 => ?_)
      fail "y"
      refine kb_seq (ks_for bd.own bd.calm (by intro _; rfl) ?_)
      refine ki_list ?_
      fail "x"
      rename_i r4 a8 c8 h41 h42 h43 h44 h45 pT npT r5 a9 c9 h51 h52 h53 h54 h55
      obtain ⟨q0, eq0, hq0, hq1⟩ : ∃ q0, (r5 * if decide ((i : Int) = 0) = true then 1 else 0) = q0 ∧ 0 ≤ q0 ∧ q0 < 2 := ⟨_, rfl, by split <;> omega, by split <;> omega⟩
      rw [eq0]
      refine ix_I (fun x => 1 ≤ x ∧ x ≤ 60) ?_
      fail "ixI"
      rename_i m3 hm3
      fail "x"
      rename_i pL npL
      refine ⟨pL, _, rfl, .here, fun J wJ => ⟨_, _, _, fun i2 σ L => ∃ (a2 c2 : Int) (o3 : Option V), L = (pL, .lst [.int 1, .int (2 + r4), .int m3]) :: (pT, .lst [.int 4, .int 59]) :: [(p, feedO a2 tb c2)] ∧ 0 ≤ a2 ∧ 0 ≤ c2 ∧ c2 ≤ 10 + 12000 * (i2 : Int) ∧ σ = [some (.ref a), some (.int i), some (.ref p), o3], wJ, ⟨_, _, _, rfl, h53, by omega, by omega, rfl⟩, ?_, ?_, ?_⟩⟩
      · rintro i2 σ L hi ⟨a2, c2, o3, rfl, h2, h3, h4, rfl⟩
        exact .here
      · rintro i2 v σ L L' hi2 ⟨a2, c2, o3, rfl, h2, h3, h4, rfl⟩ ⟨rfl, hx⟩
        have hi3 : i2 < 3 := hi2
        obtain ⟨m, rfl, hm⟩ : ∃ m, v = .int m ∧ 1 ≤ m ∧ m ≤ 60 := by
          have := List.mem_of_getElem? hx
          simp only [List.mem_cons, List.not_mem_nil, or_false] at this
          rcases this with rfl | rfl | rfl <;> exact ⟨_, rfl, by omega, by omega⟩
        fail "x"
        refine ix_I (fun x => 1 ≤ x ∧ x ≤ 1000000000000000000000000000000) ?_
        fail "ixI"
        rename_i most hmost
        fail "x"
        refine rs_rowsT (by fail "spot") (by fail "mark") (by omega) hb hb1 (by omega) (by omega) (by omega) (by omega) (by omega) (by omega) (fun R a5 c5 is rs' nR h5 hc5 hc6 ck hr hn => ?_)
        fail "x"
        refine rs_rightT (.there (spot_app' (rs'.map TRow.o) (by fail "spot"))) .here rfl (.there (.app_l .self)) (by fail "mark") h5 hb hb1 (by omega) (by omega) (by omega) ck hr (by omega) (by omega) (fun a6 c6 h6 hc7 hc8 => ?_)
        fail "x"
        exact kb_nil' (kb_nil (.cons _ (List.Sublist.trans (by fail "sub2") (List.sublist_append_right _ _))) ⟨_, _, _, rfl, h6, by omega, by omega, rfl⟩)
      · rintro σ L ⟨a2, c2, o3, rfl, h2, h3, h4, rfl⟩
        exact kb_nil (List.nil_sublist _) ⟨_, _, _, rfl, rfl⟩
    · rintro σ L ⟨o1, o2, o3, rfl, rfl⟩
      clear d1 d2 d3 d4
      have d5 := ok_Walk (P := P) (w := w) (base := base) T
      have d6 := ok_Route (P := P) (w := w) (base := base) T
      have d7 := ok_is_best (P := P) (w := w) (base := base) T
      have gr := T.gr
      fail "x"
      refine bd.makeP d6 rfl rfl rfl ?_
      fail "x"
      rename_i w1 v1 nw1 nv1 r1 q1 nr1 nq1
      have ro1 : RtOk [(1, 0, 3)] := ⟨by simp only [List.mem_cons, List.not_mem_nil, or_false]; rintro x rfl; exact ⟨by decide, by decide, by decide, by decide⟩, .cons (by simp) .nil, by decide, by decide⟩
      refine rs_rinit (ls := [⟨w1, .walk, v1, 1, 0, 3⟩]) .here (.inl nr1) rfl (show 1 ≤ 1000 by decide) (.cons (by fail "at") .nil) ro1 (fun U1 nU1 => ⟨rfl, ?_⟩)
      fail "x"
      refine rs_isBest (f := true) (i := 0) (x := ⟨w1, .walk, v1, 1, 0, 3⟩) (ls := [⟨w1, .walk, v1, 1, 0, 3⟩]) ⟨by fail "at", (show At _ U1 (.tup [.ref w1]) by fail "at"), .cons (by fail "at") .nil, ro1⟩ rfl (by show isBestB (befT [(1, 0, 3)] 0) (1, 0, 3) (aftT [(1, 0, 3)] 0) 0 = true; decide +kernel) ?_
      clear d7
      have dN := ok_is_not (P := P) (w := w) (base := base) T
      fail "x"
      refine pick_dY rfl ?_
      fail "x"
      refine bd.makeP d6 rfl rfl rfl ?_
      fail "x"
      rename_i w2 v2 nw2 nv2 r2 q2 nr2 nq2
      refine rs_rinit (ls := [⟨w2, .walk, v2, 1, 0, 3⟩]) .here (.inl nr2) rfl (show 1 ≤ 1000 by decide) (.cons (by fail "at") .nil) ro1 (fun U2 nU2 => ⟨rfl, ?_⟩)
      fail "x"
      refine rs_isNot (n := 0) (x := ⟨w2, .walk, v2, 1, 0, 3⟩) (ls := [⟨w2, .walk, v2, 1, 0, 3⟩]) ⟨by fail "at", (show At _ U2 (.tup [.ref w2]) by fail "at"), .cons (by fail "at") .nil, ro1⟩ rfl bad_bl ?_
      fail "x"
      exact fun H' _ => eq_to (decide_eq_true rfl) (k H'))
end

theorem all_mk {P : Program} {w : World} {K : PySem.W.Frag} {h : Heap} {mg : Str → Option Value} {fa C1 C2 C3 C4 f1 f2 f3 f4 f5 f6 f7 p7 f8 p8 f9 p9 f10 f11 f12 f13 f14 f15 f16 f17 f18 f19 f20 f21 p21 f22 p22 f23 f24 f25 f26 f28 f29 f30 f31 f32 f33 f34 f35 f36 f37 f38 f39 f40 f41 f42 f43 f44 f45 f46 EHeadwayError EInvalidLine EInvalidRoute EInvalidWishes EInvalidFixed EInvalidNumber EInvalidIndex ENotFitting ENothingToUndo ENotPossible EInvalidText ca16 cc16 ca18 cc18 : Addr}
    {od1 an1 od2 an2 od3 an3 od4 an4 od5 an5 od6 an6 od7 an7 od8 an8 od9 an9 od10 an10 od11 an11 od12 an12 od13 an13 od14 an14 od15 an15 od16 an16 od17 an17 od18 an18 od19 an19 od20 an20 od21 an21 od22 an22 od23 an23 od24 an24 od25 an25 od26 an26 od28 an28 od29 an29 od30 an30 od31 an31 od32 an32 od33 an33 od34 an34 od35 an35 od36 an36 od37 an37 od38 an38 od39 an39 od40 an40 od41 an41 od42 an42 od43 an43 od44 an44 od45 an45 od46 an46 : Option Addr} {sl1 sl2 sl3 sl4 sl5 sl6 sl7 sl8 sl9 sl10 sl11 sl12 sl13 sl14 sl15 sl16 sl17 sl18 sl19 sl20 sl21 sl22 sl23 sl24 sl25 sl26 sl28 sl29 sl30 sl31 sl32 sl33 sl34 sl35 sl36 sl37 sl38 sl39 sl40 sl41 sl42 sl43 sl44 sl45 sl46 : Array (Option Value)} {oc1 kV1 dc1 pm1 ct1 cd1 oc2 kV2 dc2 pm2 ct2 cd2 oc3 kV3 dc3 pm3 ct3 cd3 oc4 kV4 dc4 pm4 ct4 cd4 oc5 kV5 dc5 pm5 ct5 cd5 oc6 kV6 dc6 pm6 ct6 cd6 oc7 kV7 dc7 pm7 ct7 cd7 oc8 kV8 dc8 pm8 ct8 cd8 oc9 kV9 dc9 pm9 ct9 cd9 oc10 kV10 dc10 pm10 ct10 cd10 oc11 kV11 dc11 pm11 ct11 cd11 oc12 kV12 dc12 pm12 ct12 cd12 oc13 kV13 dc13 pm13 ct13 cd13 oc14 kV14 dc14 pm14 ct14 cd14 oc15 kV15 dc15 pm15 ct15 cd15 oc16 kV16 dc16 pm16 ct16 oc17 kV17 dc17 pm17 ct17 cd17 oc18 kV18 dc18 pm18 ct18 oc19 kV19 dc19 pm19 ct19 cd19 oc20 kV20 dc20 pm20 ct20 cd20 oc21 kV21 dc21 pm21 ct21 cd21 oc22 kV22 dc22 pm22 ct22 cd22 oc23 kV23 dc23 pm23 ct23 cd23 oc24 kV24 dc24 pm24 ct24 cd24 oc25 kV25 dc25 pm25 ct25 cd25 oc26 kV26 dc26 pm26 ct26 cd26 oc28 kV28 dc28 pm28 ct28 cd28 oc29 kV29 dc29 pm29 ct29 cd29 oc30 kV30 dc30 pm30 ct30 cd30 oc31 kV31 dc31 pm31 ct31 cd31 oc32 kV32 dc32 pm32 ct32 cd32 oc33 kV33 dc33 pm33 ct33 cd33 oc34 kV34 dc34 pm34 ct34 cd34 oc35 kV35 dc35 pm35 ct35 cd35 oc36 kV36 dc36 pm36 ct36 cd36 oc37 kV37 dc37 pm37 ct37 cd37 oc38 kV38 dc38 pm38 ct38 cd38 oc39 kV39 dc39 pm39 ct39 cd39 oc40 kV40 dc40 pm40 ct40 cd40 oc41 kV41 dc41 pm41 ct41 cd41 oc42 kV42 dc42 pm42 ct42 cd42 oc43 kV43 dc43 pm43 ct43 cd43 oc44 kV44 dc44 pm44 ct44 cd44 oc45 kV45 dc45 pm45 ct45 cd45 oc46 kV46 dc46 pm46 ct46 cd46 : Value}
    {rest7 rest8 rest9 rest21 rest22 : List Value}
    {tkC1 tkC2 tkC3 tkm tkl tkb : Tok}
    {cdtC1 cdtC2 cdtC3 cdtC4 : ClassData}
    {bsC1C1 bsC1C2 bsC1C3 bsC2C1 bsC2C2 bsC2C3 bsC3C1 bsC3C2 bsC3C3 bsC4C4 : Bool}
    {imf imr : Option Value}
    {ya16 xa16 : Value} {yb16 xb16 : Option Addr} {yc16 xc16 : Array (Option Value)} {vs16 : Array Value} {fl16 : Str} {tf16 : Tok} {xd16 : ClassData}
    {ya18 xa18 : Value} {yb18 xb18 : Option Addr} {yc18 xc18 : Array (Option Value)} {vs18 : Array Value} {fl18 : Str} {tf18 : Tok} {xd18 : ClassData} (X : K.In h) (G : h.Ns mainGlobals mg) (hfa : mg "law" = some (.ref fa))
    (zC1 : PySem.W.nsIn K mainGlobals "Line" = some (some (.ref C1)))
    (zC2 : PySem.W.nsIn K mainGlobals "Walk" = some (some (.ref C2)))
    (zC3 : PySem.W.nsIn K mainGlobals "Stop" = some (some (.ref C3)))
    (zC4 : PySem.W.nsIn K mainGlobals "Route" = some (some (.ref C4)))
    (im1 : PySem.W.findIn K (.type "int") "__mul__" = some imf)
    (im2 : PySem.W.findIn K (.type "int") "__rmul__" = some imr)
    (thd : PySem.W.nsIn K PySem.cStatics "thirdparty.any" = some none)
    (tga : PySem.W.findIn K (.type "type") "__getattribute__" = some (some (.builtin "type.__getattribute__")))
    (tgb : PySem.W.findIn K (.type "type") "__getattr__" = some none)
    (tsb : PySem.W.subIn K (.type "type") (.type "type") = some true)
    (ihn : PySem.W.specialIn K (.builtin "object.__class__") "__get__" = some (some (.builtin "getset_descriptor.__get__")))
    (iht : PySem.W.takesIn K (.builtin "object.__class__") = some true)
    (gml : PySem.W.nsIn K mainGlobals "MOST_LEGS" = some (some (.int 60 tkl)))
    (nalC4 : PySem.W.findIn K (.ref C4) "_legs" = some none)
    (gmo : PySem.W.nsIn K mainGlobals "MOST_ROUNDS" = some (some (.int 1000000000000000000000000000000 tkm)))
    (gbl : PySem.W.nsIn K mainGlobals "BLOCK" = some (some (.int 1000000000000000000000000000000000000000000000000000000000000 tkb)))
    (a1 : PySem.W.nsIn K mainGlobals "is_integer" = some (some (.ref f1)))
    (l1 : K.lookup f1 = some ⟨oc1, od1, .func (PySem.W.fnOf "is_integer" "is_integer" (defArgs s_is_integer) (defBody s_is_integer) (defScope s_is_integer) .none kV1 dc1 pm1 an1 cd1 ct1), sl1⟩)
    (c1 : PySem.W.codeIn K cd1 "is_integer" = true)
    (k1 : PySem.W.keepIn K (.ref f1) = true)
    (a2 : PySem.W.nsIn K mainGlobals "all_fit" = some (some (.ref f2)))
    (l2 : K.lookup f2 = some ⟨oc2, od2, .func (PySem.W.fnOf "all_fit" "all_fit" (defArgs s_all_fit) (defBody s_all_fit) (defScope s_all_fit) .none kV2 dc2 pm2 an2 cd2 ct2), sl2⟩)
    (c2 : PySem.W.codeIn K cd2 "all_fit" = true)
    (k2 : PySem.W.keepIn K (.ref f2) = true)
    (a3 : PySem.W.nsIn K mainGlobals "written" = some (some (.ref f3)))
    (l3 : K.lookup f3 = some ⟨oc3, od3, .func (PySem.W.fnOf "written" "written" (defArgs s_written) (defBody s_written) (defScope s_written) .none kV3 dc3 pm3 an3 cd3 ct3), sl3⟩)
    (c3 : PySem.W.codeIn K cd3 "written" = true)
    (k3 : PySem.W.keepIn K (.ref f3) = true)
    (a4 : PySem.W.nsIn K mainGlobals "is_below" = some (some (.ref f4)))
    (l4 : K.lookup f4 = some ⟨oc4, od4, .func (PySem.W.fnOf "is_below" "is_below" (defArgs s_is_below) (defBody s_is_below) (defScope s_is_below) .none kV4 dc4 pm4 an4 cd4 ct4), sl4⟩)
    (c4 : PySem.W.codeIn K cd4 "is_below" = true)
    (k4 : PySem.W.keepIn K (.ref f4) = true)
    (a5 : PySem.W.nsIn K mainGlobals "check_fitting" = some (some (.ref f5)))
    (l5 : K.lookup f5 = some ⟨oc5, od5, .func (PySem.W.fnOf "check_fitting" "check_fitting" (defArgs s_check_fitting) (defBody s_check_fitting) (defScope s_check_fitting) .none kV5 dc5 pm5 an5 cd5 ct5), sl5⟩)
    (c5 : PySem.W.codeIn K cd5 "check_fitting" = true)
    (k5 : PySem.W.keepIn K (.ref f5) = true)
    (a6 : PySem.W.findIn K (.ref C1) "__init__" = some (some (.ref f6)))
    (i6 : PySem.W.isFn K (.ref f6) = true)
    (l6 : K.lookup f6 = some ⟨oc6, od6, .func (PySem.W.fnOf "__init__" "Line.__init__" (defArgs s_Line_init) (defBody s_Line_init) (defScope s_Line_init) .none kV6 dc6 pm6 an6 cd6 ct6), sl6⟩)
    (c6 : PySem.W.codeIn K cd6 "Line.__init__" = true)
    (k6 : PySem.W.keepIn K (.ref f6) = true)
    (a7C1 : PySem.W.findIn K (.ref C1) "every" = some (some (.ref p7)))
    (a7C2 : PySem.W.findIn K (.ref C2) "every" = some (some (.ref p7)))
    (a7C3 : PySem.W.findIn K (.ref C3) "every" = some (some (.ref p7)))
    (g7 : PySem.W.specialIn K (.ref p7) "__get__" = some (some (.builtin "property.__get__")))
    (t7 : PySem.W.takesIn K (.ref p7) = some true)
    (r7 : PySem.W.recIn K p7 "property" = some (.ref f7 :: rest7))
    (l7 : K.lookup f7 = some ⟨oc7, od7, .func (PySem.W.fnOf "every" "Line.every" (defArgs s_Line_every) (defBody s_Line_every) (defScope s_Line_every) .none kV7 dc7 pm7 an7 cd7 ct7), sl7⟩)
    (c7 : PySem.W.codeIn K cd7 "Line.every" = true)
    (k7 : PySem.W.keepIn K (.ref f7) = true)
    (a8C1 : PySem.W.findIn K (.ref C1) "at" = some (some (.ref p8)))
    (a8C2 : PySem.W.findIn K (.ref C2) "at" = some (some (.ref p8)))
    (a8C3 : PySem.W.findIn K (.ref C3) "at" = some (some (.ref p8)))
    (g8 : PySem.W.specialIn K (.ref p8) "__get__" = some (some (.builtin "property.__get__")))
    (t8 : PySem.W.takesIn K (.ref p8) = some true)
    (r8 : PySem.W.recIn K p8 "property" = some (.ref f8 :: rest8))
    (l8 : K.lookup f8 = some ⟨oc8, od8, .func (PySem.W.fnOf "at" "Line.at" (defArgs s_Line_at) (defBody s_Line_at) (defScope s_Line_at) .none kV8 dc8 pm8 an8 cd8 ct8), sl8⟩)
    (c8 : PySem.W.codeIn K cd8 "Line.at" = true)
    (k8 : PySem.W.keepIn K (.ref f8) = true)
    (a9C1 : PySem.W.findIn K (.ref C1) "ride" = some (some (.ref p9)))
    (a9C2 : PySem.W.findIn K (.ref C2) "ride" = some (some (.ref p9)))
    (a9C3 : PySem.W.findIn K (.ref C3) "ride" = some (some (.ref p9)))
    (g9 : PySem.W.specialIn K (.ref p9) "__get__" = some (some (.builtin "property.__get__")))
    (t9 : PySem.W.takesIn K (.ref p9) = some true)
    (r9 : PySem.W.recIn K p9 "property" = some (.ref f9 :: rest9))
    (l9 : K.lookup f9 = some ⟨oc9, od9, .func (PySem.W.fnOf "ride" "Line.ride" (defArgs s_Line_ride) (defBody s_Line_ride) (defScope s_Line_ride) .none kV9 dc9 pm9 an9 cd9 ct9), sl9⟩)
    (c9 : PySem.W.codeIn K cd9 "Line.ride" = true)
    (k9 : PySem.W.keepIn K (.ref f9) = true)
    (a10C1 : PySem.W.findIn K (.ref C1) "__call__" = some (some (.ref f10)))
    (a10C2 : PySem.W.findIn K (.ref C2) "__call__" = some (some (.ref f10)))
    (a10C3 : PySem.W.findIn K (.ref C3) "__call__" = some (some (.ref f10)))
    (i10 : PySem.W.isFn K (.ref f10) = true)
    (j10 : PySem.W.fnIn K f10 = true)
    (l10 : K.lookup f10 = some ⟨oc10, od10, .func (PySem.W.fnOf "__call__" "Line.__call__" (defArgs s_Line_call) (defBody s_Line_call) (defScope s_Line_call) .none kV10 dc10 pm10 an10 cd10 ct10), sl10⟩)
    (c10 : PySem.W.codeIn K cd10 "Line.__call__" = true)
    (k10 : PySem.W.keepIn K (.ref f10) = true)
    (a11C1 : PySem.W.findIn K (.ref C1) "departure" = some (some (.ref f11)))
    (a11C2 : PySem.W.findIn K (.ref C2) "departure" = some (some (.ref f11)))
    (a11C3 : PySem.W.findIn K (.ref C3) "departure" = some (some (.ref f11)))
    (i11 : PySem.W.isFn K (.ref f11) = true)
    (l11 : K.lookup f11 = some ⟨oc11, od11, .func (PySem.W.fnOf "departure" "Line.departure" (defArgs s_Line_departure) (defBody s_Line_departure) (defScope s_Line_departure) .none kV11 dc11 pm11 an11 cd11 ct11), sl11⟩)
    (c11 : PySem.W.codeIn K cd11 "Line.departure" = true)
    (k11 : PySem.W.keepIn K (.ref f11) = true)
    (a12C1 : PySem.W.findIn K (.ref C1) "__add__" = some (some (.ref f12)))
    (a12C2 : PySem.W.findIn K (.ref C2) "__add__" = some (some (.ref f12)))
    (a12C3 : PySem.W.findIn K (.ref C3) "__add__" = some (some (.ref f12)))
    (i12 : PySem.W.isFn K (.ref f12) = true)
    (rt12 : PySem.W.findIn K (.type "type") "__radd__" = some none)
    (rr12C1 : PySem.W.findIn K (.ref C1) "__radd__" = some none)
    (rr12C2 : PySem.W.findIn K (.ref C2) "__radd__" = some none)
    (rr12C3 : PySem.W.findIn K (.ref C3) "__radd__" = some none)
    (l12 : K.lookup f12 = some ⟨oc12, od12, .func (PySem.W.fnOf "__add__" "Line.__add__" (defArgs s_Line_add) (defBody s_Line_add) (defScope s_Line_add) .none kV12 dc12 pm12 an12 cd12 ct12), sl12⟩)
    (c12 : PySem.W.codeIn K cd12 "Line.__add__" = true)
    (k12 : PySem.W.keepIn K (.ref f12) = true)
    (a13C1 : PySem.W.findIn K (.ref C1) "__mul__" = some (some (.ref f13)))
    (a13C2 : PySem.W.findIn K (.ref C2) "__mul__" = some (some (.ref f13)))
    (a13C3 : PySem.W.findIn K (.ref C3) "__mul__" = some (some (.ref f13)))
    (i13 : PySem.W.isFn K (.ref f13) = true)
    (rt13 : PySem.W.findIn K (.type "type") "__rmul__" = some none)
    (rr13C1 : PySem.W.findIn K (.ref C1) "__rmul__" = some none)
    (rr13C2 : PySem.W.findIn K (.ref C2) "__rmul__" = some none)
    (rr13C3 : PySem.W.findIn K (.ref C3) "__rmul__" = some none)
    (l13 : K.lookup f13 = some ⟨oc13, od13, .func (PySem.W.fnOf "__mul__" "Line.__mul__" (defArgs s_Line_mul) (defBody s_Line_mul) (defScope s_Line_mul) .none kV13 dc13 pm13 an13 cd13 ct13), sl13⟩)
    (c13 : PySem.W.codeIn K cd13 "Line.__mul__" = true)
    (k13 : PySem.W.keepIn K (.ref f13) = true)
    (a14C1 : PySem.W.findIn K (.ref C1) "__eq__" = some (some (.ref f14)))
    (a14C2 : PySem.W.findIn K (.ref C2) "__eq__" = some (some (.ref f14)))
    (a14C3 : PySem.W.findIn K (.ref C3) "__eq__" = some (some (.ref f14)))
    (i14 : PySem.W.isFn K (.ref f14) = true)
    (ne14C1 : PySem.W.findIn K (.ref C1) "__ne__" = some (some (.builtin "object.__ne__")))
    (ne14C2 : PySem.W.findIn K (.ref C2) "__ne__" = some (some (.builtin "object.__ne__")))
    (ne14C3 : PySem.W.findIn K (.ref C3) "__ne__" = some (some (.builtin "object.__ne__")))
    (l14 : K.lookup f14 = some ⟨oc14, od14, .func (PySem.W.fnOf "__eq__" "Line.__eq__" (defArgs s_Line_eq) (defBody s_Line_eq) (defScope s_Line_eq) .none kV14 dc14 pm14 an14 cd14 ct14), sl14⟩)
    (c14 : PySem.W.codeIn K cd14 "Line.__eq__" = true)
    (k14 : PySem.W.keepIn K (.ref f14) = true)
    (a15C1 : PySem.W.findIn K (.ref C1) "text" = some (some (.ref f15)))
    (i15 : PySem.W.isFn K (.ref f15) = true)
    (l15 : K.lookup f15 = some ⟨oc15, od15, .func (PySem.W.fnOf "text" "Line.text" (defArgs s_Line_text) (defBody s_Line_text) (defScope s_Line_text) .none kV15 dc15 pm15 an15 cd15 ct15), sl15⟩)
    (c15 : PySem.W.codeIn K cd15 "Line.text" = true)
    (k15 : PySem.W.keepIn K (.ref f15) = true)
    (a17C2 : PySem.W.findIn K (.ref C2) "text" = some (some (.ref f17)))
    (i17 : PySem.W.isFn K (.ref f17) = true)
    (l17 : K.lookup f17 = some ⟨oc17, od17, .func (PySem.W.fnOf "text" "Walk.text" (defArgs s_Walk_text) (defBody s_Walk_text) (defScope s_Walk_text) .none kV17 dc17 pm17 an17 cd17 ct17), sl17⟩)
    (c17 : PySem.W.codeIn K cd17 "Walk.text" = true)
    (k17 : PySem.W.keepIn K (.ref f17) = true)
    (a19C3 : PySem.W.findIn K (.ref C3) "text" = some (some (.ref f19)))
    (i19 : PySem.W.isFn K (.ref f19) = true)
    (l19 : K.lookup f19 = some ⟨oc19, od19, .func (PySem.W.fnOf "text" "Stop.text" (defArgs s_Stop_text) (defBody s_Stop_text) (defScope s_Stop_text) .none kV19 dc19 pm19 an19 cd19 ct19), sl19⟩)
    (c19 : PySem.W.codeIn K cd19 "Stop.text" = true)
    (k19 : PySem.W.keepIn K (.ref f19) = true)
    (a20 : PySem.W.findIn K (.ref C4) "__init__" = some (some (.ref f20)))
    (i20 : PySem.W.isFn K (.ref f20) = true)
    (l20 : K.lookup f20 = some ⟨oc20, od20, .func (PySem.W.fnOf "__init__" "Route.__init__" (defArgs s_Route_init) (defBody s_Route_init) (defScope s_Route_init) .none kV20 dc20 pm20 an20 cd20 ct20), sl20⟩)
    (c20 : PySem.W.codeIn K cd20 "Route.__init__" = true)
    (k20 : PySem.W.keepIn K (.ref f20) = true)
    (a21 : PySem.W.findCls K (.ref C4) (.type "type") "of" = some (.get (.builtin "classmethod.__get__") (.ref p21) .none (.ref C4)))
    (r21 : PySem.W.recIn K p21 "classmethod" = some (.ref f21 :: rest21))
    (i21 : PySem.W.fnIn K f21 = true)
    (rd21 : PySem.W.readsIn K C4 (.type "type") = true)
    (ga21 : PySem.W.specialIn K (.ref C4) "__getattribute__" = some (some (.builtin "type.__getattribute__")))
    (l21 : K.lookup f21 = some ⟨oc21, od21, .func (PySem.W.fnOf "of" "Route.of" (defArgs s_Route_of) (defBody s_Route_of) (defScope s_Route_of) .none kV21 dc21 pm21 an21 cd21 ct21), sl21⟩)
    (c21 : PySem.W.codeIn K cd21 "Route.of" = true)
    (k21 : PySem.W.keepIn K (.ref f21) = true)
    (a22C4 : PySem.W.findIn K (.ref C4) "legs" = some (some (.ref p22)))
    (g22 : PySem.W.specialIn K (.ref p22) "__get__" = some (some (.builtin "property.__get__")))
    (t22 : PySem.W.takesIn K (.ref p22) = some true)
    (r22 : PySem.W.recIn K p22 "property" = some (.ref f22 :: rest22))
    (l22 : K.lookup f22 = some ⟨oc22, od22, .func (PySem.W.fnOf "legs" "Route.legs" (defArgs s_Route_legs) (defBody s_Route_legs) (defScope s_Route_legs) .none kV22 dc22 pm22 an22 cd22 ct22), sl22⟩)
    (c22 : PySem.W.codeIn K cd22 "Route.legs" = true)
    (k22 : PySem.W.keepIn K (.ref f22) = true)
    (a23C4 : PySem.W.findIn K (.ref C4) "__len__" = some (some (.ref f23)))
    (i23 : PySem.W.isFn K (.ref f23) = true)
    (l23 : K.lookup f23 = some ⟨oc23, od23, .func (PySem.W.fnOf "__len__" "Route.__len__" (defArgs s_Route_len) (defBody s_Route_len) (defScope s_Route_len) .none kV23 dc23 pm23 an23 cd23 ct23), sl23⟩)
    (c23 : PySem.W.codeIn K cd23 "Route.__len__" = true)
    (k23 : PySem.W.keepIn K (.ref f23) = true)
    (a24C4 : PySem.W.findIn K (.ref C4) "__call__" = some (some (.ref f24)))
    (i24 : PySem.W.isFn K (.ref f24) = true)
    (j24 : PySem.W.fnIn K f24 = true)
    (l24 : K.lookup f24 = some ⟨oc24, od24, .func (PySem.W.fnOf "__call__" "Route.__call__" (defArgs s_Route_call) (defBody s_Route_call) (defScope s_Route_call) .none kV24 dc24 pm24 an24 cd24 ct24), sl24⟩)
    (c24 : PySem.W.codeIn K cd24 "Route.__call__" = true)
    (k24 : PySem.W.keepIn K (.ref f24) = true)
    (a25C4 : PySem.W.findIn K (.ref C4) "__add__" = some (some (.ref f25)))
    (i25 : PySem.W.isFn K (.ref f25) = true)
    (rt25 : PySem.W.findIn K (.type "type") "__radd__" = some none)
    (rr25C4 : PySem.W.findIn K (.ref C4) "__radd__" = some none)
    (l25 : K.lookup f25 = some ⟨oc25, od25, .func (PySem.W.fnOf "__add__" "Route.__add__" (defArgs s_Route_add) (defBody s_Route_add) (defScope s_Route_add) .none kV25 dc25 pm25 an25 cd25 ct25), sl25⟩)
    (c25 : PySem.W.codeIn K cd25 "Route.__add__" = true)
    (k25 : PySem.W.keepIn K (.ref f25) = true)
    (a26C4 : PySem.W.findIn K (.ref C4) "line" = some (some (.ref f26)))
    (i26 : PySem.W.isFn K (.ref f26) = true)
    (l26 : K.lookup f26 = some ⟨oc26, od26, .func (PySem.W.fnOf "line" "Route.line" (defArgs s_Route_line) (defBody s_Route_line) (defScope s_Route_line) .none kV26 dc26 pm26 an26 cd26 ct26), sl26⟩)
    (c26 : PySem.W.codeIn K cd26 "Route.line" = true)
    (k26 : PySem.W.keepIn K (.ref f26) = true)
    (a28 : PySem.W.nsIn K mainGlobals "check_leg" = some (some (.ref f28)))
    (l28 : K.lookup f28 = some ⟨oc28, od28, .func (PySem.W.fnOf "check_leg" "check_leg" (defArgs s_check_leg) (defBody s_check_leg) (defScope s_check_leg) .none kV28 dc28 pm28 an28 cd28 ct28), sl28⟩)
    (c28 : PySem.W.codeIn K cd28 "check_leg" = true)
    (k28 : PySem.W.keepIn K (.ref f28) = true)
    (a29 : PySem.W.nsIn K mainGlobals "line_of" = some (some (.ref f29)))
    (l29 : K.lookup f29 = some ⟨oc29, od29, .func (PySem.W.fnOf "line_of" "line_of" (defArgs s_line_of) (defBody s_line_of) (defScope s_line_of) .none kV29 dc29 pm29 an29 cd29 ct29), sl29⟩)
    (c29 : PySem.W.codeIn K cd29 "line_of" = true)
    (k29 : PySem.W.keepIn K (.ref f29) = true)
    (a30 : PySem.W.nsIn K mainGlobals "sides" = some (some (.ref f30)))
    (l30 : K.lookup f30 = some ⟨oc30, od30, .func (PySem.W.fnOf "sides" "sides" (defArgs s_sides) (defBody s_sides) (defScope s_sides) .none kV30 dc30 pm30 an30 cd30 ct30), sl30⟩)
    (c30 : PySem.W.codeIn K cd30 "sides" = true)
    (k30 : PySem.W.keepIn K (.ref f30) = true)
    (a31 : PySem.W.nsIn K mainGlobals "least_waits" = some (some (.ref f31)))
    (l31 : K.lookup f31 = some ⟨oc31, od31, .func (PySem.W.fnOf "least_waits" "least_waits" (defArgs s_least_waits) (defBody s_least_waits) (defScope s_least_waits) .none kV31 dc31 pm31 an31 cd31 ct31), sl31⟩)
    (c31 : PySem.W.codeIn K cd31 "least_waits" = true)
    (k31 : PySem.W.keepIn K (.ref f31) = true)
    (a32 : PySem.W.nsIn K mainGlobals "best_block" = some (some (.ref f32)))
    (l32 : K.lookup f32 = some ⟨oc32, od32, .func (PySem.W.fnOf "best_block" "best_block" (defArgs s_best_block) (defBody s_best_block) (defScope s_best_block) .none kV32 dc32 pm32 an32 cd32 ct32), sl32⟩)
    (c32 : PySem.W.codeIn K cd32 "best_block" = true)
    (k32 : PySem.W.keepIn K (.ref f32) = true)
    (a33 : PySem.W.nsIn K mainGlobals "best_ride" = some (some (.ref f33)))
    (l33 : K.lookup f33 = some ⟨oc33, od33, .func (PySem.W.fnOf "best_ride" "best_ride" (defArgs s_best_ride) (defBody s_best_ride) (defScope s_best_ride) .none kV33 dc33 pm33 an33 cd33 ct33), sl33⟩)
    (c33 : PySem.W.codeIn K cd33 "best_ride" = true)
    (k33 : PySem.W.keepIn K (.ref f33) = true)
    (a34 : PySem.W.nsIn K mainGlobals "count_best" = some (some (.ref f34)))
    (l34 : K.lookup f34 = some ⟨oc34, od34, .func (PySem.W.fnOf "count_best" "count_best" (defArgs s_count_best) (defBody s_count_best) (defScope s_count_best) .none kV34 dc34 pm34 an34 cd34 ct34), sl34⟩)
    (c34 : PySem.W.codeIn K cd34 "count_best" = true)
    (k34 : PySem.W.keepIn K (.ref f34) = true)
    (a35 : PySem.W.nsIn K mainGlobals "is_best" = some (some (.ref f35)))
    (l35 : K.lookup f35 = some ⟨oc35, od35, .func (PySem.W.fnOf "is_best" "is_best" (defArgs s_is_best) (defBody s_is_best) (defScope s_is_best) .none kV35 dc35 pm35 an35 cd35 ct35), sl35⟩)
    (c35 : PySem.W.codeIn K cd35 "is_best" = true)
    (k35 : PySem.W.keepIn K (.ref f35) = true)
    (a36 : PySem.W.nsIn K mainGlobals "nth_best" = some (some (.ref f36)))
    (l36 : K.lookup f36 = some ⟨oc36, od36, .func (PySem.W.fnOf "nth_best" "nth_best" (defArgs s_nth_best) (defBody s_nth_best) (defScope s_nth_best) .none kV36 dc36 pm36 an36 cd36 ct36), sl36⟩)
    (c36 : PySem.W.codeIn K cd36 "nth_best" = true)
    (k36 : PySem.W.keepIn K (.ref f36) = true)
    (a37 : PySem.W.nsIn K mainGlobals "_law_tape" = some (some (.ref f37)))
    (l37 : K.lookup f37 = some ⟨oc37, od37, .func (PySem.W.fnOf "_law_tape" "_law_tape" (defArgs s_tape) (defBody s_tape) (defScope s_tape) .none kV37 dc37 pm37 an37 cd37 ct37), sl37⟩)
    (c37 : PySem.W.codeIn K cd37 "_law_tape" = true)
    (k37 : PySem.W.keepIn K (.ref f37) = true)
    (a38 : PySem.W.nsIn K mainGlobals "_law_next" = some (some (.ref f38)))
    (l38 : K.lookup f38 = some ⟨oc38, od38, .func (PySem.W.fnOf "_law_next" "_law_next" (defArgs s_next) (defBody s_next) (defScope s_next) .none kV38 dc38 pm38 an38 cd38 ct38), sl38⟩)
    (c38 : PySem.W.codeIn K cd38 "_law_next" = true)
    (k38 : PySem.W.keepIn K (.ref f38) = true)
    (a39 : PySem.W.nsIn K mainGlobals "_law_chain" = some (some (.ref f39)))
    (l39 : K.lookup f39 = some ⟨oc39, od39, .func (PySem.W.fnOf "_law_chain" "_law_chain" (defArgs s_chain) (defBody s_chain) (defScope s_chain) .none kV39 dc39 pm39 an39 cd39 ct39), sl39⟩)
    (c39 : PySem.W.codeIn K cd39 "_law_chain" = true)
    (k39 : PySem.W.keepIn K (.ref f39) = true)
    (a40 : PySem.W.nsIn K mainGlobals "_law_rows" = some (some (.ref f40)))
    (l40 : K.lookup f40 = some ⟨oc40, od40, .func (PySem.W.fnOf "_law_rows" "_law_rows" (defArgs s_rows) (defBody s_rows) (defScope s_rows) .none kV40 dc40 pm40 an40 cd40 ct40), sl40⟩)
    (c40 : PySem.W.codeIn K cd40 "_law_rows" = true)
    (k40 : PySem.W.keepIn K (.ref f40) = true)
    (a41 : PySem.W.nsIn K mainGlobals "_law_line" = some (some (.ref f41)))
    (l41 : K.lookup f41 = some ⟨oc41, od41, .func (PySem.W.fnOf "_law_line" "_law_line" (defArgs s_line) (defBody s_line) (defScope s_line) .none kV41 dc41 pm41 an41 cd41 ct41), sl41⟩)
    (c41 : PySem.W.codeIn K cd41 "_law_line" = true)
    (k41 : PySem.W.keepIn K (.ref f41) = true)
    (a42 : PySem.W.nsIn K mainGlobals "_law_route" = some (some (.ref f42)))
    (l42 : K.lookup f42 = some ⟨oc42, od42, .func (PySem.W.fnOf "_law_route" "_law_route" (defArgs s_route) (defBody s_route) (defScope s_route) .none kV42 dc42 pm42 an42 cd42 ct42), sl42⟩)
    (c42 : PySem.W.codeIn K cd42 "_law_route" = true)
    (k42 : PySem.W.keepIn K (.ref f42) = true)
    (a43 : PySem.W.nsIn K mainGlobals "_law_class" = some (some (.ref f43)))
    (l43 : K.lookup f43 = some ⟨oc43, od43, .func (PySem.W.fnOf "_law_class" "_law_class" (defArgs s_class_) (defBody s_class_) (defScope s_class_) .none kV43 dc43 pm43 an43 cd43 ct43), sl43⟩)
    (c43 : PySem.W.codeIn K cd43 "_law_class" = true)
    (k43 : PySem.W.keepIn K (.ref f43) = true)
    (a44 : PySem.W.nsIn K mainGlobals "_law_asked" = some (some (.ref f44)))
    (l44 : K.lookup f44 = some ⟨oc44, od44, .func (PySem.W.fnOf "_law_asked" "_law_asked" (defArgs s_asked) (defBody s_asked) (defScope s_asked) .none kV44 dc44 pm44 an44 cd44 ct44), sl44⟩)
    (c44 : PySem.W.codeIn K cd44 "_law_asked" = true)
    (k44 : PySem.W.keepIn K (.ref f44) = true)
    (a45 : PySem.W.nsIn K mainGlobals "_law_right" = some (some (.ref f45)))
    (l45 : K.lookup f45 = some ⟨oc45, od45, .func (PySem.W.fnOf "_law_right" "_law_right" (defArgs s_right) (defBody s_right) (defScope s_right) .none kV45 dc45 pm45 an45 cd45 ct45), sl45⟩)
    (c45 : PySem.W.codeIn K cd45 "_law_right" = true)
    (k45 : PySem.W.keepIn K (.ref f45) = true)
    (a46 : PySem.W.nsIn K mainGlobals "law" = some (some (.ref f46)))
    (l46 : K.lookup f46 = some ⟨oc46, od46, .func (PySem.W.fnOf "law" "law" (defArgs s_law) (defBody s_law) (defScope s_law) .none kV46 dc46 pm46 an46 cd46 ct46), sl46⟩)
    (c46 : PySem.W.codeIn K cd46 "law" = true)
    (k46 : PySem.W.keepIn K (.ref f46) = true)
    (pgC1 : PySem.W.plainGet K C1 Str.empty = true)
    (hdC1 : PySem.W.hasDictIn K C1 = true)
    (poC1 : PySem.W.plainOver K C1 = true)
    (saC1 : PySem.W.findIn K (.ref C1) "__setattr__" = some (some (.builtin "object.__setattr__")))
    (mkC1 : PySem.W.makesIn K C1 = true)
    (kcC1 : PySem.W.keepIn K (.ref C1) = true)
    (tyC1 : PySem.W.typeIn K (.ref C1) = some (.type "type"))
    (sfC1 : PySem.W.selfFirst K C1 = true)
    (kc2C1 : PySem.W.clsIn K C1 = some cdtC1)
    (nlC1 : shortName cdtC1 = true)
    (kAC1 : PySem.W.findIn K (.ref C1) "__class__" = some (some (.builtin "object.__class__")))
    (kMC1 : PySem.W.mroIn K C1 (.type "object") = some true)
    (kIC1 : PySem.W.subIn K (.type "int") (.ref C1) = some false)
    (sbC1C1 : PySem.W.subIn K (.ref C1) (.ref C1) = some bsC1C1)
    (kiC1C1 : PySem.W.kitOne K (.ref C1) (.ref C1) = some true)
    (sbC1C2 : PySem.W.subIn K (.ref C2) (.ref C1) = some bsC1C2)
    (kiC1C2 : PySem.W.kitOne K (.ref C2) (.ref C1) = some true)
    (sbC1C3 : PySem.W.subIn K (.ref C3) (.ref C1) = some bsC1C3)
    (kiC1C3 : PySem.W.kitOne K (.ref C3) (.ref C1) = some true)
    (na0C1 : PySem.W.findIn K (.ref C1) "_every" = some none)
    (na1C1 : PySem.W.findIn K (.ref C1) "_at" = some none)
    (na2C1 : PySem.W.findIn K (.ref C1) "_ride" = some none)
    (kdC1 : PySem.W.findIn K (.ref C1) "KIND" = some (some (.str "line" tkC1)))
    (kgC1 : PySem.W.specialIn K (.str "line" tkC1) "__get__" = some none)
    (pgC2 : PySem.W.plainGet K C2 Str.empty = true)
    (hdC2 : PySem.W.hasDictIn K C2 = true)
    (poC2 : PySem.W.plainOver K C2 = true)
    (saC2 : PySem.W.findIn K (.ref C2) "__setattr__" = some (some (.builtin "object.__setattr__")))
    (mkC2 : PySem.W.makesIn K C2 = true)
    (kcC2 : PySem.W.keepIn K (.ref C2) = true)
    (tyC2 : PySem.W.typeIn K (.ref C2) = some (.type "type"))
    (sfC2 : PySem.W.selfFirst K C2 = true)
    (kc2C2 : PySem.W.clsIn K C2 = some cdtC2)
    (nlC2 : shortName cdtC2 = true)
    (kAC2 : PySem.W.findIn K (.ref C2) "__class__" = some (some (.builtin "object.__class__")))
    (kMC2 : PySem.W.mroIn K C2 (.type "object") = some true)
    (kIC2 : PySem.W.subIn K (.type "int") (.ref C2) = some false)
    (sbC2C1 : PySem.W.subIn K (.ref C1) (.ref C2) = some bsC2C1)
    (kiC2C1 : PySem.W.kitOne K (.ref C1) (.ref C2) = some false)
    (sbC2C2 : PySem.W.subIn K (.ref C2) (.ref C2) = some bsC2C2)
    (kiC2C2 : PySem.W.kitOne K (.ref C2) (.ref C2) = some true)
    (sbC2C3 : PySem.W.subIn K (.ref C3) (.ref C2) = some bsC2C3)
    (kiC2C3 : PySem.W.kitOne K (.ref C3) (.ref C2) = some false)
    (na0C2 : PySem.W.findIn K (.ref C2) "_every" = some none)
    (na1C2 : PySem.W.findIn K (.ref C2) "_at" = some none)
    (na2C2 : PySem.W.findIn K (.ref C2) "_ride" = some none)
    (kdC2 : PySem.W.findIn K (.ref C2) "KIND" = some (some (.str "walk" tkC2)))
    (kgC2 : PySem.W.specialIn K (.str "walk" tkC2) "__get__" = some none)
    (pgC3 : PySem.W.plainGet K C3 Str.empty = true)
    (hdC3 : PySem.W.hasDictIn K C3 = true)
    (poC3 : PySem.W.plainOver K C3 = true)
    (saC3 : PySem.W.findIn K (.ref C3) "__setattr__" = some (some (.builtin "object.__setattr__")))
    (mkC3 : PySem.W.makesIn K C3 = true)
    (kcC3 : PySem.W.keepIn K (.ref C3) = true)
    (tyC3 : PySem.W.typeIn K (.ref C3) = some (.type "type"))
    (sfC3 : PySem.W.selfFirst K C3 = true)
    (kc2C3 : PySem.W.clsIn K C3 = some cdtC3)
    (nlC3 : shortName cdtC3 = true)
    (kAC3 : PySem.W.findIn K (.ref C3) "__class__" = some (some (.builtin "object.__class__")))
    (kMC3 : PySem.W.mroIn K C3 (.type "object") = some true)
    (kIC3 : PySem.W.subIn K (.type "int") (.ref C3) = some false)
    (sbC3C1 : PySem.W.subIn K (.ref C1) (.ref C3) = some bsC3C1)
    (kiC3C1 : PySem.W.kitOne K (.ref C1) (.ref C3) = some false)
    (sbC3C2 : PySem.W.subIn K (.ref C2) (.ref C3) = some bsC3C2)
    (kiC3C2 : PySem.W.kitOne K (.ref C2) (.ref C3) = some false)
    (sbC3C3 : PySem.W.subIn K (.ref C3) (.ref C3) = some bsC3C3)
    (kiC3C3 : PySem.W.kitOne K (.ref C3) (.ref C3) = some true)
    (na0C3 : PySem.W.findIn K (.ref C3) "_every" = some none)
    (na1C3 : PySem.W.findIn K (.ref C3) "_at" = some none)
    (na2C3 : PySem.W.findIn K (.ref C3) "_ride" = some none)
    (kdC3 : PySem.W.findIn K (.ref C3) "KIND" = some (some (.str "stop" tkC3)))
    (kgC3 : PySem.W.specialIn K (.str "stop" tkC3) "__get__" = some none)
    (pgC4 : PySem.W.plainGet K C4 Str.empty = true)
    (hdC4 : PySem.W.hasDictIn K C4 = true)
    (poC4 : PySem.W.plainOver K C4 = true)
    (saC4 : PySem.W.findIn K (.ref C4) "__setattr__" = some (some (.builtin "object.__setattr__")))
    (mkC4 : PySem.W.makesIn K C4 = true)
    (kcC4 : PySem.W.keepIn K (.ref C4) = true)
    (tyC4 : PySem.W.typeIn K (.ref C4) = some (.type "type"))
    (sfC4 : PySem.W.selfFirst K C4 = true)
    (kc2C4 : PySem.W.clsIn K C4 = some cdtC4)
    (nlC4 : shortName cdtC4 = true)
    (kAC4 : PySem.W.findIn K (.ref C4) "__class__" = some (some (.builtin "object.__class__")))
    (kMC4 : PySem.W.mroIn K C4 (.type "object") = some true)
    (kIC4 : PySem.W.subIn K (.type "int") (.ref C4) = some false)
    (sbC4C4 : PySem.W.subIn K (.ref C4) (.ref C4) = some bsC4C4)
    (kiC4C4 : PySem.W.kitOne K (.ref C4) (.ref C4) = some true)
    (ktiC1 : PySem.W.kitOne K (.ref C1) (.type "int") = some false)
    (ktiC2 : PySem.W.kitOne K (.ref C2) (.type "int") = some false)
    (ktiC3 : PySem.W.kitOne K (.ref C3) (.type "int") = some false)
    (ktiC4 : PySem.W.kitOne K (.ref C4) (.type "int") = some false)
    (zHeadwayError : PySem.W.nsIn K mainGlobals "HeadwayError" = some (some (.ref EHeadwayError)))
    (kxHeadwayError : PySem.W.keepIn K (.ref EHeadwayError) = true)
    (zInvalidLine : PySem.W.nsIn K mainGlobals "InvalidLine" = some (some (.ref EInvalidLine)))
    (kxInvalidLine : PySem.W.keepIn K (.ref EInvalidLine) = true)
    (zInvalidRoute : PySem.W.nsIn K mainGlobals "InvalidRoute" = some (some (.ref EInvalidRoute)))
    (kxInvalidRoute : PySem.W.keepIn K (.ref EInvalidRoute) = true)
    (zInvalidWishes : PySem.W.nsIn K mainGlobals "InvalidWishes" = some (some (.ref EInvalidWishes)))
    (kxInvalidWishes : PySem.W.keepIn K (.ref EInvalidWishes) = true)
    (zInvalidFixed : PySem.W.nsIn K mainGlobals "InvalidFixed" = some (some (.ref EInvalidFixed)))
    (kxInvalidFixed : PySem.W.keepIn K (.ref EInvalidFixed) = true)
    (zInvalidNumber : PySem.W.nsIn K mainGlobals "InvalidNumber" = some (some (.ref EInvalidNumber)))
    (kxInvalidNumber : PySem.W.keepIn K (.ref EInvalidNumber) = true)
    (zInvalidIndex : PySem.W.nsIn K mainGlobals "InvalidIndex" = some (some (.ref EInvalidIndex)))
    (kxInvalidIndex : PySem.W.keepIn K (.ref EInvalidIndex) = true)
    (zNotFitting : PySem.W.nsIn K mainGlobals "NotFitting" = some (some (.ref ENotFitting)))
    (kxNotFitting : PySem.W.keepIn K (.ref ENotFitting) = true)
    (zNothingToUndo : PySem.W.nsIn K mainGlobals "NothingToUndo" = some (some (.ref ENothingToUndo)))
    (kxNothingToUndo : PySem.W.keepIn K (.ref ENothingToUndo) = true)
    (zNotPossible : PySem.W.nsIn K mainGlobals "NotPossible" = some (some (.ref ENotPossible)))
    (kxNotPossible : PySem.W.keepIn K (.ref ENotPossible) = true)
    (zInvalidText : PySem.W.nsIn K mainGlobals "InvalidText" = some (some (.ref EInvalidText)))
    (kxInvalidText : PySem.W.keepIn K (.ref EInvalidText) = true)
    (hsb : PySem.W.subIn K (.ref EHeadwayError) (.type "BaseException") = some true)
    (hdh : PySem.W.hasDictIn K EHeadwayError = true)
    (hty : PySem.W.typeIn K (.ref EHeadwayError) = some (.type "type"))
    (qInvalidIndex : PySem.W.excIn K EInvalidIndex veB "ValueError.__new__" = true)
    (sbInvalidIndex : PySem.W.subIn K (.ref EInvalidIndex) (.type "BaseException") = some true)
    (tyInvalidIndex : PySem.W.typeIn K (.ref EInvalidIndex) = some (.type "type"))
    (gaInvalidIndex : PySem.W.findIn K (.ref EInvalidIndex) "__getattribute__" = some (some (.builtin "BaseException.__getattribute__")))
    (gtInvalidIndex : PySem.W.findIn K (.ref EInvalidIndex) "__getattr__" = some none)
    (hdInvalidIndex : PySem.W.hasDictIn K EInvalidIndex = true)
    (clInvalidIndex : PySem.W.findIn K (.ref EInvalidIndex) "__class__" = some (some (.builtin "object.__class__")))
    (mrInvalidIndex : PySem.W.mroIn K EInvalidIndex (.type "object") = some true)
    (shInvalidIndex : PySem.W.subIn K (.ref EInvalidIndex) (.ref EHeadwayError) = some true)
    (kvInvalidIndex : PySem.W.kitOne K (.ref EInvalidIndex) (.type "ValueError") = some true)
    (kiInvalidIndex_HeadwayError : PySem.W.kitOne K (.ref EInvalidIndex) (.ref EHeadwayError) = some true)
    (kiInvalidIndex_InvalidLine : PySem.W.kitOne K (.ref EInvalidIndex) (.ref EInvalidLine) = some false)
    (kiInvalidIndex_InvalidRoute : PySem.W.kitOne K (.ref EInvalidIndex) (.ref EInvalidRoute) = some false)
    (kiInvalidIndex_InvalidWishes : PySem.W.kitOne K (.ref EInvalidIndex) (.ref EInvalidWishes) = some false)
    (kiInvalidIndex_InvalidFixed : PySem.W.kitOne K (.ref EInvalidIndex) (.ref EInvalidFixed) = some false)
    (kiInvalidIndex_InvalidNumber : PySem.W.kitOne K (.ref EInvalidIndex) (.ref EInvalidNumber) = some false)
    (kiInvalidIndex_InvalidIndex : PySem.W.kitOne K (.ref EInvalidIndex) (.ref EInvalidIndex) = some true)
    (kiInvalidIndex_NotFitting : PySem.W.kitOne K (.ref EInvalidIndex) (.ref ENotFitting) = some false)
    (kiInvalidIndex_NothingToUndo : PySem.W.kitOne K (.ref EInvalidIndex) (.ref ENothingToUndo) = some false)
    (kiInvalidIndex_NotPossible : PySem.W.kitOne K (.ref EInvalidIndex) (.ref ENotPossible) = some false)
    (kiInvalidIndex_InvalidText : PySem.W.kitOne K (.ref EInvalidIndex) (.ref EInvalidText) = some false)
    (qInvalidNumber : PySem.W.excIn K EInvalidNumber veB "ValueError.__new__" = true)
    (sbInvalidNumber : PySem.W.subIn K (.ref EInvalidNumber) (.type "BaseException") = some true)
    (tyInvalidNumber : PySem.W.typeIn K (.ref EInvalidNumber) = some (.type "type"))
    (gaInvalidNumber : PySem.W.findIn K (.ref EInvalidNumber) "__getattribute__" = some (some (.builtin "BaseException.__getattribute__")))
    (gtInvalidNumber : PySem.W.findIn K (.ref EInvalidNumber) "__getattr__" = some none)
    (hdInvalidNumber : PySem.W.hasDictIn K EInvalidNumber = true)
    (clInvalidNumber : PySem.W.findIn K (.ref EInvalidNumber) "__class__" = some (some (.builtin "object.__class__")))
    (mrInvalidNumber : PySem.W.mroIn K EInvalidNumber (.type "object") = some true)
    (shInvalidNumber : PySem.W.subIn K (.ref EInvalidNumber) (.ref EHeadwayError) = some true)
    (kvInvalidNumber : PySem.W.kitOne K (.ref EInvalidNumber) (.type "ValueError") = some true)
    (kiInvalidNumber_HeadwayError : PySem.W.kitOne K (.ref EInvalidNumber) (.ref EHeadwayError) = some true)
    (kiInvalidNumber_InvalidLine : PySem.W.kitOne K (.ref EInvalidNumber) (.ref EInvalidLine) = some false)
    (kiInvalidNumber_InvalidRoute : PySem.W.kitOne K (.ref EInvalidNumber) (.ref EInvalidRoute) = some false)
    (kiInvalidNumber_InvalidWishes : PySem.W.kitOne K (.ref EInvalidNumber) (.ref EInvalidWishes) = some false)
    (kiInvalidNumber_InvalidFixed : PySem.W.kitOne K (.ref EInvalidNumber) (.ref EInvalidFixed) = some false)
    (kiInvalidNumber_InvalidNumber : PySem.W.kitOne K (.ref EInvalidNumber) (.ref EInvalidNumber) = some true)
    (kiInvalidNumber_InvalidIndex : PySem.W.kitOne K (.ref EInvalidNumber) (.ref EInvalidIndex) = some false)
    (kiInvalidNumber_NotFitting : PySem.W.kitOne K (.ref EInvalidNumber) (.ref ENotFitting) = some false)
    (kiInvalidNumber_NothingToUndo : PySem.W.kitOne K (.ref EInvalidNumber) (.ref ENothingToUndo) = some false)
    (kiInvalidNumber_NotPossible : PySem.W.kitOne K (.ref EInvalidNumber) (.ref ENotPossible) = some false)
    (kiInvalidNumber_InvalidText : PySem.W.kitOne K (.ref EInvalidNumber) (.ref EInvalidText) = some false)
    (b0 : PySem.W.nsIn K mainGlobals "isinstance" = some none)
    (b1 : PySem.W.nsIn K mainGlobals "len" = some none)
    (b2 : PySem.W.nsIn K mainGlobals "max" = some none)
    (b3 : PySem.W.nsIn K mainGlobals "min" = some none)
    (b4 : PySem.W.nsIn K mainGlobals "abs" = some none)
    (b5 : PySem.W.nsIn K mainGlobals "repr" = some none)
    (b6 : PySem.W.nsIn K mainGlobals "sum" = some none)
    (b7 : PySem.W.nsIn K mainGlobals "all" = some none)
    (b8 : PySem.W.nsIn K mainGlobals "any" = some none)
    (b9 : PySem.W.nsIn K mainGlobals "sorted" = some none)
    (b10 : PySem.W.nsIn K mainGlobals "int" = some none)
    (b11 : PySem.W.nsIn K mainGlobals "bool" = some none)
    (b12 : PySem.W.nsIn K mainGlobals "str" = some none)
    (b13 : PySem.W.nsIn K mainGlobals "list" = some none)
    (b14 : PySem.W.nsIn K mainGlobals "tuple" = some none)
    (b15 : PySem.W.nsIn K mainGlobals "range" = some none)
    (b16 : PySem.W.nsIn K mainGlobals "enumerate" = some none)
    (b17 : PySem.W.nsIn K mainGlobals "zip" = some none)
    (b18 : PySem.W.nsIn K mainGlobals "super" = some none)
    (b19 : PySem.W.nsIn K mainGlobals "set" = some none)
    (b20 : PySem.W.nsIn K mainGlobals "divmod" = some none)
    (b21 : PySem.W.nsIn K mainGlobals "next" = some none)
    (b22 : PySem.W.nsIn K mainGlobals "type" = some none)
    (b23 : PySem.W.nsIn K mainGlobals "dict" = some none)
    (b24 : PySem.W.nsIn K mainGlobals "ValueError" = some none)
    (a16 : PySem.W.findIn K (.ref C2) "__init__" = some (some (.ref f16)))
    (i16 : PySem.W.isFn K (.ref f16) = true)
    (l16 : K.lookup f16 = some ⟨oc16, od16, .func (PySem.W.ksFn "__init__" "Walk.__init__" (defArgs s_Walk_init) (defBody s_Walk_init) (defScope s_Walk_init) .none kV16 dc16 pm16 an16 (.ref ca16) ct16 cc16), sl16⟩)
    (c16 : PySem.W.codeIn K (.ref ca16) "Walk.__init__" = true)
    (q16 : K.lookup ca16 = some ⟨ya16, yb16, .fields vs16, yc16⟩)
    (v16 : vs16[2]? = some (.str fl16 tf16))
    (w16 : ((P.main.file : Str) == fl16) = true)
    (x16 : K.lookup cc16 = some ⟨xa16, xb16, .cell (some (.ref C2)), xc16⟩)
    (y16 : PySem.W.clsIn K C2 = some xd16)
    (u16 : PySem.W.mroIn K C2 (.ref C2) = some true)
    (e16 : PySem.W.ks_superIn K C2 C2 "__init__" = some (some (.ref f6)))
    (a18 : PySem.W.findIn K (.ref C3) "__init__" = some (some (.ref f18)))
    (i18 : PySem.W.isFn K (.ref f18) = true)
    (l18 : K.lookup f18 = some ⟨oc18, od18, .func (PySem.W.ksFn "__init__" "Stop.__init__" (defArgs s_Stop_init) (defBody s_Stop_init) (defScope s_Stop_init) .none kV18 dc18 pm18 an18 (.ref ca18) ct18 cc18), sl18⟩)
    (c18 : PySem.W.codeIn K (.ref ca18) "Stop.__init__" = true)
    (q18 : K.lookup ca18 = some ⟨ya18, yb18, .fields vs18, yc18⟩)
    (v18 : vs18[2]? = some (.str fl18 tf18))
    (w18 : ((P.main.file : Str) == fl18) = true)
    (x18 : K.lookup cc18 = some ⟨xa18, xb18, .cell (some (.ref C3)), xc18⟩)
    (y18 : PySem.W.clsIn K C3 = some xd18)
    (u18 : PySem.W.mroIn K C3 (.ref C3) = some true)
    (e18 : PySem.W.ks_superIn K C3 C3 "__init__" = some (some (.ref f6)))
    (tyL : PySem.W.typeIn K (.ref f6) = some (.type "function"))
    (fnL : PySem.W.fnIn K f6 = true)
    (tpS : (P.main.scope.names.lookup ("super" : Str)).isSome = false)
    : ∃ fd : FuncData, (∀ (s : Shared) (v : Value), BindsTo s fd ⟨[v], []⟩ [("script", v)]) ∧ ∀ base : Heap, K.In base → base.Ns mainGlobals mg → Fk P w K mg base CX0 17 fa fd ["script"] (spLaw K) := by
  have e := hfa.symm.trans (PySem.W.mg_of X G a46)
  cases e
  have clC1 : Cls K C1 := ⟨pgC1, hdC1, poC1, saC1⟩
  have clC2 : Cls K C2 := ⟨pgC2, hdC2, poC2, saC2⟩
  have clC3 : Cls K C3 := ⟨pgC3, hdC3, poC3, saC3⟩
  have clC4 : Cls K C4 := ⟨pgC4, hdC4, poC4, saC4⟩
  have T : Tx P K mg ⟨C1, C2, C3, C4, ⟨EHeadwayError, EInvalidLine, EInvalidRoute, EInvalidWishes, EInvalidFixed, EInvalidNumber, EInvalidIndex, ENotFitting, ENothingToUndo, ENotPossible, EInvalidText⟩⟩ := {
    xHeadwayError := ⟨PySem.W.mg_of X G zHeadwayError, kxHeadwayError⟩
    xInvalidLine := ⟨PySem.W.mg_of X G zInvalidLine, kxInvalidLine⟩
    xInvalidRoute := ⟨PySem.W.mg_of X G zInvalidRoute, kxInvalidRoute⟩
    xInvalidWishes := ⟨PySem.W.mg_of X G zInvalidWishes, kxInvalidWishes⟩
    xInvalidFixed := ⟨PySem.W.mg_of X G zInvalidFixed, kxInvalidFixed⟩
    xInvalidNumber := ⟨PySem.W.mg_of X G zInvalidNumber, kxInvalidNumber⟩
    xInvalidIndex := ⟨PySem.W.mg_of X G zInvalidIndex, kxInvalidIndex⟩
    xNotFitting := ⟨PySem.W.mg_of X G zNotFitting, kxNotFitting⟩
    xNothingToUndo := ⟨PySem.W.mg_of X G zNothingToUndo, kxNothingToUndo⟩
    xNotPossible := ⟨PySem.W.mg_of X G zNotPossible, kxNotPossible⟩
    xInvalidText := ⟨PySem.W.mg_of X G zInvalidText, kxInvalidText⟩
    rInvalidIndex := ⟨qInvalidIndex, sbInvalidIndex, tyInvalidIndex⟩
    eInvalidIndex := ⟨gaInvalidIndex, gtInvalidIndex, sbInvalidIndex, hdInvalidIndex, clInvalidIndex, ihn, iht, mrInvalidIndex⟩
    mInvalidIndex := PySem.W.exm_ref hsb hdh hty shInvalidIndex
    vInvalidIndex := kvInvalidIndex
    kInvalidIndex_HeadwayError := kiInvalidIndex_HeadwayError
    kInvalidIndex_InvalidLine := kiInvalidIndex_InvalidLine
    kInvalidIndex_InvalidRoute := kiInvalidIndex_InvalidRoute
    kInvalidIndex_InvalidWishes := kiInvalidIndex_InvalidWishes
    kInvalidIndex_InvalidFixed := kiInvalidIndex_InvalidFixed
    kInvalidIndex_InvalidNumber := kiInvalidIndex_InvalidNumber
    kInvalidIndex_InvalidIndex := kiInvalidIndex_InvalidIndex
    kInvalidIndex_NotFitting := kiInvalidIndex_NotFitting
    kInvalidIndex_NothingToUndo := kiInvalidIndex_NothingToUndo
    kInvalidIndex_NotPossible := kiInvalidIndex_NotPossible
    kInvalidIndex_InvalidText := kiInvalidIndex_InvalidText
    rInvalidNumber := ⟨qInvalidNumber, sbInvalidNumber, tyInvalidNumber⟩
    eInvalidNumber := ⟨gaInvalidNumber, gtInvalidNumber, sbInvalidNumber, hdInvalidNumber, clInvalidNumber, ihn, iht, mrInvalidNumber⟩
    mInvalidNumber := PySem.W.exm_ref hsb hdh hty shInvalidNumber
    vInvalidNumber := kvInvalidNumber
    kInvalidNumber_HeadwayError := kiInvalidNumber_HeadwayError
    kInvalidNumber_InvalidLine := kiInvalidNumber_InvalidLine
    kInvalidNumber_InvalidRoute := kiInvalidNumber_InvalidRoute
    kInvalidNumber_InvalidWishes := kiInvalidNumber_InvalidWishes
    kInvalidNumber_InvalidFixed := kiInvalidNumber_InvalidFixed
    kInvalidNumber_InvalidNumber := kiInvalidNumber_InvalidNumber
    kInvalidNumber_InvalidIndex := kiInvalidNumber_InvalidIndex
    kInvalidNumber_NotFitting := kiInvalidNumber_NotFitting
    kInvalidNumber_NothingToUndo := kiInvalidNumber_NothingToUndo
    kInvalidNumber_NotPossible := kiInvalidNumber_NotPossible
    kInvalidNumber_InvalidText := kiInvalidNumber_InvalidText
    is_integer := ⟨⟨_, _, fun_mk (st := s_is_integer) l1 c1 k1, PySem.W.mg_of X G a1⟩⟩
    all_fit := ⟨⟨_, _, fun_mk (st := s_all_fit) l2 c2 k2, PySem.W.mg_of X G a2⟩⟩
    written := ⟨⟨_, _, fun_mk (st := s_written) l3 c3 k3, PySem.W.mg_of X G a3⟩⟩
    is_below := ⟨⟨_, _, fun_mk (st := s_is_below) l4 c4 k4, PySem.W.mg_of X G a4⟩⟩
    check_fitting := ⟨⟨_, _, fun_mk (st := s_check_fitting) l5 c5 k5, PySem.W.mg_of X G a5⟩⟩
    Line_init := ⟨⟨f6, _, fun_mk (st := s_Line_init) l6 c6 k6, PySem.W.mg_of X G zC1, ⟨mkC1, a6, i6, kcC1⟩⟩⟩
    Line_every := ⟨⟨f7, _, fun_mk (st := s_Line_every) l7 c7 k7, fun C hC => by (rcases hC with rfl | rfl | rfl) <;> (first | exact ⟨p7, ⟨a7C1, g7, t7, ⟨_, r7⟩⟩⟩ | exact ⟨p7, ⟨a7C2, g7, t7, ⟨_, r7⟩⟩⟩ | exact ⟨p7, ⟨a7C3, g7, t7, ⟨_, r7⟩⟩⟩)⟩⟩
    Line_at := ⟨⟨f8, _, fun_mk (st := s_Line_at) l8 c8 k8, fun C hC => by (rcases hC with rfl | rfl | rfl) <;> (first | exact ⟨p8, ⟨a8C1, g8, t8, ⟨_, r8⟩⟩⟩ | exact ⟨p8, ⟨a8C2, g8, t8, ⟨_, r8⟩⟩⟩ | exact ⟨p8, ⟨a8C3, g8, t8, ⟨_, r8⟩⟩⟩)⟩⟩
    Line_ride := ⟨⟨f9, _, fun_mk (st := s_Line_ride) l9 c9 k9, fun C hC => by (rcases hC with rfl | rfl | rfl) <;> (first | exact ⟨p9, ⟨a9C1, g9, t9, ⟨_, r9⟩⟩⟩ | exact ⟨p9, ⟨a9C2, g9, t9, ⟨_, r9⟩⟩⟩ | exact ⟨p9, ⟨a9C3, g9, t9, ⟨_, r9⟩⟩⟩)⟩⟩
    Line_call := ⟨⟨f10, _, fun_mk (st := s_Line_call) l10 c10 k10, fun C hC => by (rcases hC with rfl | rfl | rfl) <;> (first | exact ⟨a10C1, i10, j10⟩ | exact ⟨a10C2, i10, j10⟩ | exact ⟨a10C3, i10, j10⟩)⟩⟩
    Line_departure := ⟨⟨f11, _, fun_mk (st := s_Line_departure) l11 c11 k11, fun C hC => by (rcases hC with rfl | rfl | rfl) <;> (first | exact ⟨a11C1, i11, k11⟩ | exact ⟨a11C2, i11, k11⟩ | exact ⟨a11C3, i11, k11⟩)⟩⟩
    Line_add := ⟨⟨f12, _, fun_mk (st := s_Line_add) l12 c12 k12, fun C hC => by (rcases hC with rfl | rfl | rfl) <;> (first | exact .of dn_add dr_add a12C1 i12 sfC1 rr12C1 tyC1 kc2C1 nlC1 nm_add | exact .of dn_add dr_add a12C2 i12 sfC2 rr12C2 tyC2 kc2C2 nlC2 nm_add | exact .of dn_add dr_add a12C3 i12 sfC3 rr12C3 tyC3 kc2C3 nlC3 nm_add), fun C D hC hD => by (rcases hC with rfl | rfl | rfl) <;> (rcases hD with rfl | rfl | rfl) <;> (first | exact ⟨_, sbC1C1⟩ | exact ⟨_, sbC1C2⟩ | exact ⟨_, sbC1C3⟩ | exact ⟨_, sbC2C1⟩ | exact ⟨_, sbC2C2⟩ | exact ⟨_, sbC2C3⟩ | exact ⟨_, sbC3C1⟩ | exact ⟨_, sbC3C2⟩ | exact ⟨_, sbC3C3⟩), .of dr_add thd rt12 tga tgb tsb (by decide +kernel)⟩⟩
    Line_mul := ⟨⟨f13, _, fun_mk (st := s_Line_mul) l13 c13 k13, fun C hC => by (rcases hC with rfl | rfl | rfl) <;> (first | exact .of dn_mul dr_mul a13C1 i13 sfC1 rr13C1 tyC1 kc2C1 nlC1 nm_mul | exact .of dn_mul dr_mul a13C2 i13 sfC2 rr13C2 tyC2 kc2C2 nlC2 nm_mul | exact .of dn_mul dr_mul a13C3 i13 sfC3 rr13C3 tyC3 kc2C3 nlC3 nm_mul), fun C D hC hD => by (rcases hC with rfl | rfl | rfl) <;> (rcases hD with rfl | rfl | rfl) <;> (first | exact ⟨_, sbC1C1⟩ | exact ⟨_, sbC1C2⟩ | exact ⟨_, sbC1C3⟩ | exact ⟨_, sbC2C1⟩ | exact ⟨_, sbC2C2⟩ | exact ⟨_, sbC2C3⟩ | exact ⟨_, sbC3C1⟩ | exact ⟨_, sbC3C2⟩ | exact ⟨_, sbC3C3⟩), .of dr_mul thd rt13 tga tgb tsb (by decide +kernel)⟩⟩
    Line_eq := ⟨⟨f14, _, fun_mk (st := s_Line_eq) l14 c14 k14, fun C hC => by (rcases hC with rfl | rfl | rfl) <;> (first | exact ⟨a14C1, i14, ne14C1, kMC1⟩ | exact ⟨a14C2, i14, ne14C2, kMC2⟩ | exact ⟨a14C3, i14, ne14C3, kMC3⟩), fun C D hC hD => by (rcases hC with rfl | rfl | rfl) <;> (rcases hD with rfl | rfl | rfl) <;> (first | exact ⟨_, sbC1C1⟩ | exact ⟨_, sbC1C2⟩ | exact ⟨_, sbC1C3⟩ | exact ⟨_, sbC2C1⟩ | exact ⟨_, sbC2C2⟩ | exact ⟨_, sbC2C3⟩ | exact ⟨_, sbC3C1⟩ | exact ⟨_, sbC3C2⟩ | exact ⟨_, sbC3C3⟩)⟩⟩
    Line_text := ⟨⟨f15, _, fun_mk (st := s_Line_text) l15 c15 k15, fun C hC => by (rcases hC with rfl) <;> (first | exact ⟨a15C1, i15, k15⟩)⟩⟩
    Walk_text := ⟨⟨f17, _, fun_mk (st := s_Walk_text) l17 c17 k17, fun C hC => by (rcases hC with rfl) <;> (first | exact ⟨a17C2, i17, k17⟩)⟩⟩
    Stop_text := ⟨⟨f19, _, fun_mk (st := s_Stop_text) l19 c19 k19, fun C hC => by (rcases hC with rfl) <;> (first | exact ⟨a19C3, i19, k19⟩)⟩⟩
    Route_init := ⟨⟨f20, _, fun_mk (st := s_Route_init) l20 c20 k20, PySem.W.mg_of X G zC4, ⟨mkC4, a20, i20, kcC4⟩⟩⟩
    Route_of := ⟨⟨f21, _, p21, _, fun_mk (st := s_Route_of) l21 c21 k21, ⟨rd21, ga21⟩, ⟨a21, ⟨_, r21⟩, i21⟩⟩⟩
    Route_legs := ⟨⟨f22, _, fun_mk (st := s_Route_legs) l22 c22 k22, fun C hC => by (rcases hC with rfl) <;> (first | exact ⟨p22, ⟨a22C4, g22, t22, ⟨_, r22⟩⟩⟩)⟩⟩
    Route_len := ⟨⟨f23, _, fun_mk (st := s_Route_len) l23 c23 k23, fun C hC => by (rcases hC with rfl) <;> (first | exact ⟨a23C4, i23⟩)⟩⟩
    Route_call := ⟨⟨f24, _, fun_mk (st := s_Route_call) l24 c24 k24, fun C hC => by (rcases hC with rfl) <;> (first | exact ⟨a24C4, i24, j24⟩)⟩⟩
    Route_add := ⟨⟨f25, _, fun_mk (st := s_Route_add) l25 c25 k25, fun C hC => by (rcases hC with rfl) <;> (first | exact .of dn_add dr_add a25C4 i25 sfC4 rr25C4 tyC4 kc2C4 nlC4 nm_add), fun C D hC hD => by (rcases hC with rfl) <;> (rcases hD with rfl) <;> (first | exact ⟨_, sbC4C4⟩), .of dr_add thd rt25 tga tgb tsb (by decide +kernel)⟩⟩
    Route_line := ⟨⟨f26, _, fun_mk (st := s_Route_line) l26 c26 k26, fun C hC => by (rcases hC with rfl) <;> (first | exact ⟨a26C4, i26, k26⟩)⟩⟩
    check_leg := ⟨⟨_, _, fun_mk (st := s_check_leg) l28 c28 k28, PySem.W.mg_of X G a28⟩⟩
    line_of := ⟨⟨_, _, fun_mk (st := s_line_of) l29 c29 k29, PySem.W.mg_of X G a29⟩⟩
    sides := ⟨⟨_, _, fun_mk (st := s_sides) l30 c30 k30, PySem.W.mg_of X G a30⟩⟩
    least_waits := ⟨⟨_, _, fun_mk (st := s_least_waits) l31 c31 k31, PySem.W.mg_of X G a31⟩⟩
    best_block := ⟨⟨_, _, fun_mk (st := s_best_block) l32 c32 k32, PySem.W.mg_of X G a32⟩⟩
    best_ride := ⟨⟨_, _, fun_mk (st := s_best_ride) l33 c33 k33, PySem.W.mg_of X G a33⟩⟩
    count_best := ⟨⟨_, _, fun_mk (st := s_count_best) l34 c34 k34, PySem.W.mg_of X G a34⟩⟩
    is_best := ⟨⟨_, _, fun_mk (st := s_is_best) l35 c35 k35, PySem.W.mg_of X G a35⟩⟩
    nth_best := ⟨⟨_, _, fun_mk (st := s_nth_best) l36 c36 k36, PySem.W.mg_of X G a36⟩⟩
    tape := ⟨⟨_, _, fun_mk (st := s_tape) l37 c37 k37, PySem.W.mg_of X G a37⟩⟩
    next := ⟨⟨_, _, fun_mk (st := s_next) l38 c38 k38, PySem.W.mg_of X G a38⟩⟩
    chain := ⟨⟨_, _, fun_mk (st := s_chain) l39 c39 k39, PySem.W.mg_of X G a39⟩⟩
    rows := ⟨⟨_, _, fun_mk (st := s_rows) l40 c40 k40, PySem.W.mg_of X G a40⟩⟩
    line := ⟨⟨_, _, fun_mk (st := s_line) l41 c41 k41, PySem.W.mg_of X G a41⟩⟩
    route := ⟨⟨_, _, fun_mk (st := s_route) l42 c42 k42, PySem.W.mg_of X G a42⟩⟩
    class_ := ⟨⟨_, _, fun_mk (st := s_class_) l43 c43 k43, PySem.W.mg_of X G a43⟩⟩
    asked := ⟨⟨_, _, fun_mk (st := s_asked) l44 c44 k44, PySem.W.mg_of X G a44⟩⟩
    right := ⟨⟨_, _, fun_mk (st := s_right) l45 c45 k45, PySem.W.mg_of X G a45⟩⟩
    law := ⟨⟨_, _, fun_mk (st := s_law) l46 c46 k46, PySem.W.mg_of X G a46⟩⟩
    ln := fun C hC => by (rcases hC with rfl | rfl | rfl) <;> (first | exact ⟨clC1, na0C1, na1C1, na2C1⟩ | exact ⟨clC2, na0C2, na1C2, na2C2⟩ | exact ⟨clC3, na0C3, na1C3, na2C3⟩)
    con := fun k => by cases k <;> (first | exact ⟨_, kdC1, ⟨_, rfl⟩, kgC1, by decide +kernel⟩ | exact ⟨_, kdC2, ⟨_, rfl⟩, kgC2, by decide +kernel⟩ | exact ⟨_, kdC3, ⟨_, rfl⟩, kgC3, by decide +kernel⟩)
    walk := mak_walk l16 c16 ⟨⟨_, _, _, _, _, _, q16, v16, w16⟩, ⟨_, _, _, x16⟩, ⟨_, y16⟩, u16, e16, tyL, fnL, thd, rfl, rfl, rfl, by decide +kernel, by decide +kernel, by decide +kernel, by decide +kernel, by decide +kernel, by decide +kernel, tpS, by decide +kernel⟩ (PySem.W.mg_none_of X G b18) (fun_mk (st := s_Line_init) l6 c6 k6) (PySem.W.mg_of X G zC2) ⟨mkC2, a16, i16, kcC2⟩
    stop := mak_stop l18 c18 ⟨⟨_, _, _, _, _, _, q18, v18, w18⟩, ⟨_, _, _, x18⟩, ⟨_, y18⟩, u18, e18, tyL, fnL, thd, rfl, rfl, rfl, by decide +kernel, by decide +kernel, by decide +kernel, by decide +kernel, by decide +kernel, by decide +kernel, tpS, by decide +kernel⟩ (PySem.W.mg_none_of X G b18) (fun_mk (st := s_Line_init) l6 c6 k6) (PySem.W.mg_of X G zC3) ⟨mkC3, a18, i18, kcC3⟩
    gl := PySem.W.mg_of X G zC1
    gw := PySem.W.mg_of X G zC2
    gs := PySem.W.mg_of X G zC3
    rt := ⟨clC4, nalC4⟩
    gr := PySem.W.mg_of X G zC4
    mostL := ⟨_, PySem.W.mg_of X G gml⟩
    isr := ⟨kAC4, kMC4⟩
    krr := kiC4C4
    isk := fun C hC => by (rcases hC with rfl | rfl | rfl) <;> (first | exact ⟨kAC1, kMC1⟩ | exact ⟨kAC2, kMC2⟩ | exact ⟨kAC3, kMC3⟩)
    is0 := ⟨ihn, iht⟩
    kl := fun C hC => by (rcases hC with rfl | rfl | rfl) <;> (first | exact kiC1C1 | exact kiC1C2 | exact kiC1C3)
    kw := fun k => by cases k <;> (first | exact kiC2C1 | exact kiC2C2 | exact kiC2C3)
    ks := fun k => by cases k <;> (first | exact kiC3C1 | exact kiC3C2 | exact kiC3C3)
    int := fun C hC => by (rcases hC with rfl | rfl | rfl) <;> (first | exact kIC1 | exact kIC2 | exact kIC3)
    imul := ⟨_, _, by rw [dn_mul]; exact im1, by rw [dr_mul]; exact im2⟩
    kln := fun C hC => by (rcases hC with rfl | rfl | rfl) <;> (first | exact ktiC1 | exact ktiC2 | exact ktiC3)
    kri := ktiC4
    most := ⟨_, PySem.W.mg_of X G gmo⟩
    block := ⟨_, PySem.W.mg_of X G gbl⟩
    blt := fun x hx => by
      simp only [List.mem_cons, List.not_mem_nil, or_false] at hx
      rcases hx with rfl | rfl | rfl | rfl | rfl | rfl | rfl | rfl | rfl | rfl | rfl | rfl | rfl | rfl | rfl | rfl | rfl | rfl | rfl | rfl | rfl | rfl | rfl | rfl | rfl
      · exact PySem.W.mg_none_of X G b0
      · exact PySem.W.mg_none_of X G b1
      · exact PySem.W.mg_none_of X G b2
      · exact PySem.W.mg_none_of X G b3
      · exact PySem.W.mg_none_of X G b4
      · exact PySem.W.mg_none_of X G b5
      · exact PySem.W.mg_none_of X G b6
      · exact PySem.W.mg_none_of X G b7
      · exact PySem.W.mg_none_of X G b8
      · exact PySem.W.mg_none_of X G b9
      · exact PySem.W.mg_none_of X G b10
      · exact PySem.W.mg_none_of X G b11
      · exact PySem.W.mg_none_of X G b12
      · exact PySem.W.mg_none_of X G b13
      · exact PySem.W.mg_none_of X G b14
      · exact PySem.W.mg_none_of X G b15
      · exact PySem.W.mg_none_of X G b16
      · exact PySem.W.mg_none_of X G b17
      · exact PySem.W.mg_none_of X G b18
      · exact PySem.W.mg_none_of X G b19
      · exact PySem.W.mg_none_of X G b20
      · exact PySem.W.mg_none_of X G b21
      · exact PySem.W.mg_none_of X G b22
      · exact PySem.W.mg_none_of X G b23
      · exact PySem.W.mg_none_of X G b24 }
  have FL := fun_mk (st := s_law) l46 c46 k46
  exact ⟨_, fun s v => .of_eq rfl, fun base _ _ => fk_law T _ _ FL⟩
theorem walk {l : PySem.W.OpenLaw} {q : Program} {loose : List Str} {XP : (Str → Option Value) → Heap → Prop} {YP : World → Heap → Prop} {d : DefRec} {K : Params → PySem.W.Frag} (hn : l.most = some 63) (hdf : d.params.defaults = [])
    (hY : ∀ (w : World) (h : Heap), YP w h → (K w.params).In h)
    (F : ∀ (w : World) (mg : Str → Option Value) (fa : Addr) (h : Heap), (K w.params).In h → h.Ns mainGlobals mg → mg d.name = some (.ref fa) →
      ∃ fd : FuncData, (∀ (s : Shared) (u : Value), BindsTo s fd ⟨[u], []⟩ [("script", u)]) ∧ ∀ base : Heap, (K w.params).In base → base.Ns mainGlobals mg → Fk l.prog w (K w.params) mg base CX0 17 fa fd ["script"] (spLaw (K w.params))) :
    PySem.W.WalkO q loose XP YP l.row.toRowW d [] (fun f vs => PySem.call f vs) :=
  Xi.law_walk (n := 63) (k := 17) (x := "script") (CX := fun _ => CX0) (sp := fun w => spLaw (K w.params)) hn (by decide) hdf ⟨rfl, by decide, by decide⟩ hY F (fun _ _ a ns hl hS => ⟨a, ns, rfl, hS, hl, fun _ => rfl⟩) fun _ _ _ _ _ z => z

end Toy
open PySem PySem.W PyProof.Rows
set_option maxRecDepth 100000 in
set_option maxHeartbeats 0 in
theorem PySem.Challenge.cw_onwardlines_k38_errors_of_departures_holds : PySem.Challenge.rw_onwardlines_k38_errors_of_departures.Holds := by
  w_on; o_law; k_head; (case hw => w_witness2)
  k_fill
  refine Toy.walk (l := PySem.Challenge.rw_onwardlines_k38_errors_of_departures) rfl rfl (fun w h Y => PySem.W.kIn_of Y) ?F
  case F =>
    intro w mg fa h KX G hmg
    refine' Toy.all_mk (P := PySem.Challenge.rw_onwardlines_k38_errors_of_departures.prog) KX G hmg ?zC1 ?zC2 ?zC3 ?zC4 ?im1 ?im2 ?thd ?tga ?tgb ?tsb ?ihn ?iht ?gml ?nalC4 ?gmo ?gbl ?a1 ?l1 ?c1 ?k1 ?a2 ?l2 ?c2 ?k2 ?a3 ?l3 ?c3 ?k3 ?a4 ?l4 ?c4 ?k4 ?a5 ?l5 ?c5 ?k5 ?a6 ?i6 ?l6 ?c6 ?k6 ?a7C1 ?a7C2 ?a7C3 ?g7 ?t7 ?r7 ?l7 ?c7 ?k7 ?a8C1 ?a8C2 ?a8C3 ?g8 ?t8 ?r8 ?l8 ?c8 ?k8 ?a9C1 ?a9C2 ?a9C3 ?g9 ?t9 ?r9 ?l9 ?c9 ?k9 ?a10C1 ?a10C2 ?a10C3 ?i10 ?j10 ?l10 ?c10 ?k10 ?a11C1 ?a11C2 ?a11C3 ?i11 ?l11 ?c11 ?k11 ?a12C1 ?a12C2 ?a12C3 ?i12 ?rt12 ?rr12C1 ?rr12C2 ?rr12C3 ?l12 ?c12 ?k12 ?a13C1 ?a13C2 ?a13C3 ?i13 ?rt13 ?rr13C1 ?rr13C2 ?rr13C3 ?l13 ?c13 ?k13 ?a14C1 ?a14C2 ?a14C3 ?i14 ?ne14C1 ?ne14C2 ?ne14C3 ?l14 ?c14 ?k14 ?a15C1 ?i15 ?l15 ?c15 ?k15 ?a17C2 ?i17 ?l17 ?c17 ?k17 ?a19C3 ?i19 ?l19 ?c19 ?k19 ?a20 ?i20 ?l20 ?c20 ?k20 ?a21 ?r21 ?i21 ?rd21 ?ga21 ?l21 ?c21 ?k21 ?a22C4 ?g22 ?t22 ?r22 ?l22 ?c22 ?k22 ?a23C4 ?i23 ?l23 ?c23 ?k23 ?a24C4 ?i24 ?j24 ?l24 ?c24 ?k24 ?a25C4 ?i25 ?rt25 ?rr25C4 ?l25 ?c25 ?k25 ?a26C4 ?i26 ?l26 ?c26 ?k26 ?a28 ?l28 ?c28 ?k28 ?a29 ?l29 ?c29 ?k29 ?a30 ?l30 ?c30 ?k30 ?a31 ?l31 ?c31 ?k31 ?a32 ?l32 ?c32 ?k32 ?a33 ?l33 ?c33 ?k33 ?a34 ?l34 ?c34 ?k34 ?a35 ?l35 ?c35 ?k35 ?a36 ?l36 ?c36 ?k36 ?a37 ?l37 ?c37 ?k37 ?a38 ?l38 ?c38 ?k38 ?a39 ?l39 ?c39 ?k39 ?a40 ?l40 ?c40 ?k40 ?a41 ?l41 ?c41 ?k41 ?a42 ?l42 ?c42 ?k42 ?a43 ?l43 ?c43 ?k43 ?a44 ?l44 ?c44 ?k44 ?a45 ?l45 ?c45 ?k45 ?a46 ?l46 ?c46 ?k46 ?pgC1 ?hdC1 ?poC1 ?saC1 ?mkC1 ?kcC1 ?tyC1 ?sfC1 ?kc2C1 ?nlC1 ?kAC1 ?kMC1 ?kIC1 ?sbC1C1 ?kiC1C1 ?sbC1C2 ?kiC1C2 ?sbC1C3 ?kiC1C3 ?na0C1 ?na1C1 ?na2C1 ?kdC1 ?kgC1 ?pgC2 ?hdC2 ?poC2 ?saC2 ?mkC2 ?kcC2 ?tyC2 ?sfC2 ?kc2C2 ?nlC2 ?kAC2 ?kMC2 ?kIC2 ?sbC2C1 ?kiC2C1 ?sbC2C2 ?kiC2C2 ?sbC2C3 ?kiC2C3 ?na0C2 ?na1C2 ?na2C2 ?kdC2 ?kgC2 ?pgC3 ?hdC3 ?poC3 ?saC3 ?mkC3 ?kcC3 ?tyC3 ?sfC3 ?kc2C3 ?nlC3 ?kAC3 ?kMC3 ?kIC3 ?sbC3C1 ?kiC3C1 ?sbC3C2 ?kiC3C2 ?sbC3C3 ?kiC3C3 ?na0C3 ?na1C3 ?na2C3 ?kdC3 ?kgC3 ?pgC4 ?hdC4 ?poC4 ?saC4 ?mkC4 ?kcC4 ?tyC4 ?sfC4 ?kc2C4 ?nlC4 ?kAC4 ?kMC4 ?kIC4 ?sbC4C4 ?kiC4C4 ?ktiC1 ?ktiC2 ?ktiC3 ?ktiC4 ?zHeadwayError ?kxHeadwayError ?zInvalidLine ?kxInvalidLine ?zInvalidRoute ?kxInvalidRoute ?zInvalidWishes ?kxInvalidWishes ?zInvalidFixed ?kxInvalidFixed ?zInvalidNumber ?kxInvalidNumber ?zInvalidIndex ?kxInvalidIndex ?zNotFitting ?kxNotFitting ?zNothingToUndo ?kxNothingToUndo ?zNotPossible ?kxNotPossible ?zInvalidText ?kxInvalidText ?hsb ?hdh ?hty ?qInvalidIndex ?sbInvalidIndex ?tyInvalidIndex ?gaInvalidIndex ?gtInvalidIndex ?hdInvalidIndex ?clInvalidIndex ?mrInvalidIndex ?shInvalidIndex ?kvInvalidIndex ?kiInvalidIndex_HeadwayError ?kiInvalidIndex_InvalidLine ?kiInvalidIndex_InvalidRoute ?kiInvalidIndex_InvalidWishes ?kiInvalidIndex_InvalidFixed ?kiInvalidIndex_InvalidNumber ?kiInvalidIndex_InvalidIndex ?kiInvalidIndex_NotFitting ?kiInvalidIndex_NothingToUndo ?kiInvalidIndex_NotPossible ?kiInvalidIndex_InvalidText ?qInvalidNumber ?sbInvalidNumber ?tyInvalidNumber ?gaInvalidNumber ?gtInvalidNumber ?hdInvalidNumber ?clInvalidNumber ?mrInvalidNumber ?shInvalidNumber ?kvInvalidNumber ?kiInvalidNumber_HeadwayError ?kiInvalidNumber_InvalidLine ?kiInvalidNumber_InvalidRoute ?kiInvalidNumber_InvalidWishes ?kiInvalidNumber_InvalidFixed ?kiInvalidNumber_InvalidNumber ?kiInvalidNumber_InvalidIndex ?kiInvalidNumber_NotFitting ?kiInvalidNumber_NothingToUndo ?kiInvalidNumber_NotPossible ?kiInvalidNumber_InvalidText ?b0 ?b1 ?b2 ?b3 ?b4 ?b5 ?b6 ?b7 ?b8 ?b9 ?b10 ?b11 ?b12 ?b13 ?b14 ?b15 ?b16 ?b17 ?b18 ?b19 ?b20 ?b21 ?b22 ?b23 ?b24 ?a16 ?i16 ?l16 ?c16 ?q16 ?v16 ?w16 ?x16 ?y16 ?u16 ?e16 ?a18 ?i18 ?l18 ?c18 ?q18 ?v18 ?w18 ?x18 ?y18 ?u18 ?e18 ?tyL ?fnL ?tpS
    (case zC1 => k_is)
    (case zC2 => k_is)
    (case zC3 => k_is)
    (case zC4 => k_is)
    (case im1 => k_is)
    (case im2 => k_is)
    (case thd => k_is)
    (case tga => k_is)
    (case tgb => k_is)
    (case tsb => k_is)
    (case ihn => k_is)
    (case iht => k_is)
    (case gml => k_is)
    (case nalC4 => k_is)
    (case gmo => k_is)
    (case gbl => k_is)
    (case a1 => k_is)
    (case l1 => k_is)
    (case c1 => k_is)
    (case k1 => k_is)
    (case a2 => k_is)
    (case l2 => k_is)
    (case c2 => k_is)
    (case k2 => k_is)
    (case a3 => k_is)
    (case l3 => k_is)
    (case c3 => k_is)
    (case k3 => k_is)
    (case a4 => k_is)
    (case l4 => k_is)
    (case c4 => k_is)
    (case k4 => k_is)
    (case a5 => k_is)
    (case l5 => k_is)
    (case c5 => k_is)
    (case k5 => k_is)
    (case a6 => k_is)
    (case i6 => k_is)
    (case l6 => k_is)
    (case c6 => k_is)
    (case k6 => k_is)
    (case a7C1 => k_is)
    (case a7C2 => k_is)
    (case a7C3 => k_is)
    (case g7 => k_is)
    (case t7 => k_is)
    (case r7 => k_is)
    (case l7 => k_is)
    (case c7 => k_is)
    (case k7 => k_is)
    (case a8C1 => k_is)
    (case a8C2 => k_is)
    (case a8C3 => k_is)
    (case g8 => k_is)
    (case t8 => k_is)
    (case r8 => k_is)
    (case l8 => k_is)
    (case c8 => k_is)
    (case k8 => k_is)
    (case a9C1 => k_is)
    (case a9C2 => k_is)
    (case a9C3 => k_is)
    (case g9 => k_is)
    (case t9 => k_is)
    (case r9 => k_is)
    (case l9 => k_is)
    (case c9 => k_is)
    (case k9 => k_is)
    (case a10C1 => k_is)
    (case a10C2 => k_is)
    (case a10C3 => k_is)
    (case i10 => k_is)
    (case j10 => k_is)
    (case l10 => k_is)
    (case c10 => k_is)
    (case k10 => k_is)
    (case a11C1 => k_is)
    (case a11C2 => k_is)
    (case a11C3 => k_is)
    (case i11 => k_is)
    (case l11 => k_is)
    (case c11 => k_is)
    (case k11 => k_is)
    (case a12C1 => k_is)
    (case a12C2 => k_is)
    (case a12C3 => k_is)
    (case i12 => k_is)
    (case rt12 => k_is)
    (case rr12C1 => k_is)
    (case rr12C2 => k_is)
    (case rr12C3 => k_is)
    (case l12 => k_is)
    (case c12 => k_is)
    (case k12 => k_is)
    (case a13C1 => k_is)
    (case a13C2 => k_is)
    (case a13C3 => k_is)
    (case i13 => k_is)
    (case rt13 => k_is)
    (case rr13C1 => k_is)
    (case rr13C2 => k_is)
    (case rr13C3 => k_is)
    (case l13 => k_is)
    (case c13 => k_is)
    (case k13 => k_is)
    (case a14C1 => k_is)
    (case a14C2 => k_is)
    (case a14C3 => k_is)
    (case i14 => k_is)
    (case ne14C1 => k_is)
    (case ne14C2 => k_is)
    (case ne14C3 => k_is)
    (case l14 => k_is)
    (case c14 => k_is)
    (case k14 => k_is)
    (case a15C1 => k_is)
    (case i15 => k_is)
    (case l15 => k_is)
    (case c15 => k_is)
    (case k15 => k_is)
    (case a17C2 => k_is)
    (case i17 => k_is)
    (case l17 => k_is)
    (case c17 => k_is)
    (case k17 => k_is)
    (case a19C3 => k_is)
    (case i19 => k_is)
    (case l19 => k_is)
    (case c19 => k_is)
    (case k19 => k_is)
    (case a20 => k_is)
    (case i20 => k_is)
    (case l20 => k_is)
    (case c20 => k_is)
    (case k20 => k_is)
    (case a21 => k_is)
    (case r21 => k_is)
    (case i21 => k_is)
    (case rd21 => k_is)
    (case ga21 => k_is)
    (case l21 => k_is)
    (case c21 => k_is)
    (case k21 => k_is)
    (case a22C4 => k_is)
    (case g22 => k_is)
    (case t22 => k_is)
    (case r22 => k_is)
    (case l22 => k_is)
    (case c22 => k_is)
    (case k22 => k_is)
    (case a23C4 => k_is)
    (case i23 => k_is)
    (case l23 => k_is)
    (case c23 => k_is)
    (case k23 => k_is)
    (case a24C4 => k_is)
    (case i24 => k_is)
    (case j24 => k_is)
    (case l24 => k_is)
    (case c24 => k_is)
    (case k24 => k_is)
    (case a25C4 => k_is)
    (case i25 => k_is)
    (case rt25 => k_is)
    (case rr25C4 => k_is)
    (case l25 => k_is)
    (case c25 => k_is)
    (case k25 => k_is)
    (case a26C4 => k_is)
    (case i26 => k_is)
    (case l26 => k_is)
    (case c26 => k_is)
    (case k26 => k_is)
    (case a28 => k_is)
    (case l28 => k_is)
    (case c28 => k_is)
    (case k28 => k_is)
    (case a29 => k_is)
    (case l29 => k_is)
    (case c29 => k_is)
    (case k29 => k_is)
    (case a30 => k_is)
    (case l30 => k_is)
    (case c30 => k_is)
    (case k30 => k_is)
    (case a31 => k_is)
    (case l31 => k_is)
    (case c31 => k_is)
    (case k31 => k_is)
    (case a32 => k_is)
    (case l32 => k_is)
    (case c32 => k_is)
    (case k32 => k_is)
    (case a33 => k_is)
    (case l33 => k_is)
    (case c33 => k_is)
    (case k33 => k_is)
    (case a34 => k_is)
    (case l34 => k_is)
    (case c34 => k_is)
    (case k34 => k_is)
    (case a35 => k_is)
    (case l35 => k_is)
    (case c35 => k_is)
    (case k35 => k_is)
    (case a36 => k_is)
    (case l36 => k_is)
    (case c36 => k_is)
    (case k36 => k_is)
    (case a37 => k_is)
    (case l37 => k_is)
    (case c37 => k_is)
    (case k37 => k_is)
    (case a38 => k_is)
    (case l38 => k_is)
    (case c38 => k_is)
    (case k38 => k_is)
    (case a39 => k_is)
    (case l39 => k_is)
    (case c39 => k_is)
    (case k39 => k_is)
    (case a40 => k_is)
    (case l40 => k_is)
    (case c40 => k_is)
    (case k40 => k_is)
    (case a41 => k_is)
    (case l41 => k_is)
    (case c41 => k_is)
    (case k41 => k_is)
    (case a42 => k_is)
    (case l42 => k_is)
    (case c42 => k_is)
    (case k42 => k_is)
    (case a43 => k_is)
    (case l43 => k_is)
    (case c43 => k_is)
    (case k43 => k_is)
    (case a44 => k_is)
    (case l44 => k_is)
    (case c44 => k_is)
    (case k44 => k_is)
    (case a45 => k_is)
    (case l45 => k_is)
    (case c45 => k_is)
    (case k45 => k_is)
    (case a46 => k_is)
    (case l46 => k_is)
    (case c46 => k_is)
    (case k46 => k_is)
    (case pgC1 => k_is)
    (case hdC1 => k_is)
    (case poC1 => k_is)
    (case saC1 => k_is)
    (case mkC1 => k_is)
    (case kcC1 => k_is)
    (case tyC1 => k_is)
    (case sfC1 => k_is)
    (case kc2C1 => k_is)
    (case nlC1 => decide +kernel)
    (case kAC1 => k_is)
    (case kMC1 => k_is)
    (case kIC1 => k_is)
    (case sbC1C1 => k_is)
    (case kiC1C1 => kit_is)
    (case sbC1C2 => k_is)
    (case kiC1C2 => kit_is)
    (case sbC1C3 => k_is)
    (case kiC1C3 => kit_is)
    (case na0C1 => k_is)
    (case na1C1 => k_is)
    (case na2C1 => k_is)
    (case kdC1 => k_is)
    (case kgC1 => k_is)
    (case pgC2 => k_is)
    (case hdC2 => k_is)
    (case poC2 => k_is)
    (case saC2 => k_is)
    (case mkC2 => k_is)
    (case kcC2 => k_is)
    (case tyC2 => k_is)
    (case sfC2 => k_is)
    (case kc2C2 => k_is)
    (case nlC2 => decide +kernel)
    (case kAC2 => k_is)
    (case kMC2 => k_is)
    (case kIC2 => k_is)
    (case sbC2C1 => k_is)
    (case kiC2C1 => kit_is)
    (case sbC2C2 => k_is)
    (case kiC2C2 => kit_is)
    (case sbC2C3 => k_is)
    (case kiC2C3 => kit_is)
    (case na0C2 => k_is)
    (case na1C2 => k_is)
    (case na2C2 => k_is)
    (case kdC2 => k_is)
    (case kgC2 => k_is)
    (case pgC3 => k_is)
    (case hdC3 => k_is)
    (case poC3 => k_is)
    (case saC3 => k_is)
    (case mkC3 => k_is)
    (case kcC3 => k_is)
    (case tyC3 => k_is)
    (case sfC3 => k_is)
    (case kc2C3 => k_is)
    (case nlC3 => decide +kernel)
    (case kAC3 => k_is)
    (case kMC3 => k_is)
    (case kIC3 => k_is)
    (case sbC3C1 => k_is)
    (case kiC3C1 => kit_is)
    (case sbC3C2 => k_is)
    (case kiC3C2 => kit_is)
    (case sbC3C3 => k_is)
    (case kiC3C3 => kit_is)
    (case na0C3 => k_is)
    (case na1C3 => k_is)
    (case na2C3 => k_is)
    (case kdC3 => k_is)
    (case kgC3 => k_is)
    (case pgC4 => k_is)
    (case hdC4 => k_is)
    (case poC4 => k_is)
    (case saC4 => k_is)
    (case mkC4 => k_is)
    (case kcC4 => k_is)
    (case tyC4 => k_is)
    (case sfC4 => k_is)
    (case kc2C4 => k_is)
    (case nlC4 => decide +kernel)
    (case kAC4 => k_is)
    (case kMC4 => k_is)
    (case kIC4 => k_is)
    (case sbC4C4 => k_is)
    (case kiC4C4 => kit_is)
    (case ktiC1 => kit_is)
    (case ktiC2 => kit_is)
    (case ktiC3 => kit_is)
    (case ktiC4 => kit_is)
    (case zHeadwayError => k_is)
    (case kxHeadwayError => k_is)
    (case zInvalidLine => k_is)
    (case kxInvalidLine => k_is)
    (case zInvalidRoute => k_is)
    (case kxInvalidRoute => k_is)
    (case zInvalidWishes => k_is)
    (case kxInvalidWishes => k_is)
    (case zInvalidFixed => k_is)
    (case kxInvalidFixed => k_is)
    (case zInvalidNumber => k_is)
    (case kxInvalidNumber => k_is)
    (case zInvalidIndex => k_is)
    (case kxInvalidIndex => k_is)
    (case zNotFitting => k_is)
    (case kxNotFitting => k_is)
    (case zNothingToUndo => k_is)
    (case kxNothingToUndo => k_is)
    (case zNotPossible => k_is)
    (case kxNotPossible => k_is)
    (case zInvalidText => k_is)
    (case kxInvalidText => k_is)
    (case hsb => k_is)
    (case hdh => k_is)
    (case hty => k_is)
    (case qInvalidIndex => k_exc)
    (case sbInvalidIndex => k_is)
    (case tyInvalidIndex => k_is)
    (case gaInvalidIndex => k_is)
    (case gtInvalidIndex => k_is)
    (case hdInvalidIndex => k_is)
    (case clInvalidIndex => k_is)
    (case mrInvalidIndex => k_is)
    (case shInvalidIndex => k_is)
    (case kvInvalidIndex => kit_is)
    (case kiInvalidIndex_HeadwayError => kit_is)
    (case kiInvalidIndex_InvalidLine => kit_is)
    (case kiInvalidIndex_InvalidRoute => kit_is)
    (case kiInvalidIndex_InvalidWishes => kit_is)
    (case kiInvalidIndex_InvalidFixed => kit_is)
    (case kiInvalidIndex_InvalidNumber => kit_is)
    (case kiInvalidIndex_InvalidIndex => kit_is)
    (case kiInvalidIndex_NotFitting => kit_is)
    (case kiInvalidIndex_NothingToUndo => kit_is)
    (case kiInvalidIndex_NotPossible => kit_is)
    (case kiInvalidIndex_InvalidText => kit_is)
    (case qInvalidNumber => k_exc)
    (case sbInvalidNumber => k_is)
    (case tyInvalidNumber => k_is)
    (case gaInvalidNumber => k_is)
    (case gtInvalidNumber => k_is)
    (case hdInvalidNumber => k_is)
    (case clInvalidNumber => k_is)
    (case mrInvalidNumber => k_is)
    (case shInvalidNumber => k_is)
    (case kvInvalidNumber => kit_is)
    (case kiInvalidNumber_HeadwayError => kit_is)
    (case kiInvalidNumber_InvalidLine => kit_is)
    (case kiInvalidNumber_InvalidRoute => kit_is)
    (case kiInvalidNumber_InvalidWishes => kit_is)
    (case kiInvalidNumber_InvalidFixed => kit_is)
    (case kiInvalidNumber_InvalidNumber => kit_is)
    (case kiInvalidNumber_InvalidIndex => kit_is)
    (case kiInvalidNumber_NotFitting => kit_is)
    (case kiInvalidNumber_NothingToUndo => kit_is)
    (case kiInvalidNumber_NotPossible => kit_is)
    (case kiInvalidNumber_InvalidText => kit_is)
    (case b0 => k_is)
    (case b1 => k_is)
    (case b2 => k_is)
    (case b3 => k_is)
    (case b4 => k_is)
    (case b5 => k_is)
    (case b6 => k_is)
    (case b7 => k_is)
    (case b8 => k_is)
    (case b9 => k_is)
    (case b10 => k_is)
    (case b11 => k_is)
    (case b12 => k_is)
    (case b13 => k_is)
    (case b14 => k_is)
    (case b15 => k_is)
    (case b16 => k_is)
    (case b17 => k_is)
    (case b18 => k_is)
    (case b19 => k_is)
    (case b20 => k_is)
    (case b21 => k_is)
    (case b22 => k_is)
    (case b23 => k_is)
    (case b24 => k_is)
    (case a16 => k_is)
    (case i16 => k_is)
    (case l16 => k_is)
    (case c16 => k_is)
    (case q16 => k_is)
    (case v16 => exact rfl)
    (case w16 => decide +kernel)
    (case x16 => k_is)
    (case y16 => k_is)
    (case u16 => k_is)
    (case e16 => ks_is)
    (case a18 => k_is)
    (case i18 => k_is)
    (case l18 => k_is)
    (case c18 => k_is)
    (case q18 => k_is)
    (case v18 => exact rfl)
    (case w18 => decide +kernel)
    (case x18 => k_is)
    (case y18 => k_is)
    (case u18 => k_is)
    (case e18 => ks_is)
    (case tyL => k_is)
    (case fnL => k_is)
    (case tpS => decide +kernel)

