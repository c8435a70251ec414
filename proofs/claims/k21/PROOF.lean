import PyProof.Rows.All
import Wide.All
import OpenK.AllK
import Wide.FinOn
import HandS.ForMost
import HandS.Zip
import HandS.Star
import HandS.More
import HandS.StrMore
import HandS.Dict
import KE.GoesMore
import KE.GoesEnum
import KE.KDictZip
import KE.KTupSum
import PyProof.Rows.StrStep
import HandS.Conv
import HandS.TupAny
import HandS.IsInst
import HandS.Flow
import HandS.Wide
import HandS.Property
import HandS.MakeKw
import HandS.OwnEq
import HandS.RaiseMore
import HandS.Text
import HandS.Exc
import HandS.Style
import HandS.HeadHook2
import HandS.HeadHook3
import HandS.Head0
import HandS.Head1
import HandS.Head2
import HandS.HeadEnd
import KE.KStateDown
import PySem.Challenge.RW_flowyard_k21_whole_flows_of_terms
set_option Elab.async false
set_option linter.all false
set_option maxRecDepth 100000
set_option maxHeartbeats 2000000
namespace Mc
open PySem PySem.Spec PyProof.Rows L2

/-! ### zip of two texts, walked -/
def ItzS (x y : Str) : It := ⟨fun i _ => i < x.cps.size ∧ i < y.cps.size,
  fun i H v H' => ∃ T c d, v = .ref T ∧ H T = none ∧ H' = upd H T (.tup [.str ⟨#[c]⟩, .str ⟨#[d]⟩]) ∧ x.cps[i]? = some c ∧ y.cps[i]? = some d,
  fun i _ => x.cps.size ≤ i ∨ y.cps.size ≤ i⟩
def zsSt (x y : Str) (t u : Tok) (z TI TO i1 i2 : Addr) (i : Nat) (h : Heap) : Prop :=
  IsZip h z TI TO .none ∧ IsTupOf2 h TI (.ref i1) (.ref i2) ∧ (∃ a b, IsTupOf2 h TO a b) ∧ h.IsStrIter i1 (strIterType x) x t i ∧ h.IsStrIter i2 (strIterType y) y u i ∧ i ≤ x.cps.size ∧ i ≤ y.cps.size
theorem turn_zipS {P : Program} {w : World} {K : PySem.W.Frag} {elts : List Expr} {kk : Nat} {tpos : Pos} {z TI TO i1 i2 : Addr} {x y : Str} {t u : Tok} (D : ZipSep2 z TI TO i1 i2 [i1] [i2]) :
    Turn P w K (.Tuple elts kk tpos) (ItzS x y) [z, TI, TO, i1, i2] z (zsSt x y t u z TI TO i1 i2) where
  mem := by simp
  obj := fun i h st c hc => by
    obtain ⟨hz, hTI, ⟨a, b, hTO⟩, ⟨o1, e1, _, d1⟩, ⟨o2, e2, _, d2⟩, _, _⟩ := st
    have e' : c = z ∨ c = TI ∨ c = TO ∨ c = i1 ∨ c = i2 := by simpa using hc
    rcases e' with q | q | q | q | q
    · rw [q]; exact ⟨_, hz, fun v q => nomatch q⟩
    · rw [q]; exact ⟨_, hTI, fun v q => nomatch q⟩
    · rw [q]; exact ⟨_, hTO, fun v q => nomatch q⟩
    · rw [q]; exact ⟨o1, e1, fun v q => by rw [d1] at q; cases q⟩
    · rw [q]; exact ⟨o2, e2, fun v q => by rw [d2] at q; cases q⟩
  keep := fun i h h' st k => by
    obtain ⟨hz, hTI, ⟨a, b, hTO⟩, ⟨o1, e1, r1⟩, ⟨o2, e2, r2⟩, l1, l2⟩ := st
    exact ⟨k z (by simp) _ hz, k TI (by simp) _ hTI, ⟨a, b, k TO (by simp) _ hTO⟩, ⟨o1, k i1 (by simp) _ e1, r1⟩, ⟨o2, k i2 (by simp) _ e2, r2⟩, l1, l2⟩
  item := by
    intro X hP hw hK hc i pins s σ H E I hf st hg
    subst hP hw hK
    obtain ⟨hz, hTI, ⟨a0, b0, hTO⟩, h1, h2, l1, l2⟩ := st
    have hzl : z < s.heap.objs.size := Heap.lt_size hz
    have hd := I.ok.hd hc
    refine wpAny_pyNext_zipD2_item D (Draws.text (show X.A.in1.handled = none from hd) i1 x t) (Draws.text (show X.A.in1.handled = none from hd) i2 y u) hz hTI hTO h1 h2 hg.1 hg.2 fun x1 x2 h' tk y1 y2 z' TO' h1' h2' hT hsz hk => ?_
    obtain ⟨c, u1, hc1, rfl⟩ := y1
    obtain ⟨d, u2, hc2, rfl⟩ := y2
    refine ⟨_, rfl, wpAny_letOwnedTupleGo_zip (s := { s with heap := h', toks := tk }) z' fun h'' z'' sb => ?_⟩
    have hT2 : h''.get? s.heap.objs.size = some { cls := .type "tuple", data := .seq #[.str ⟨#[c]⟩ u1, .str ⟨#[d]⟩ u2] } := (sb.2 _ (Nat.ne_of_gt hzl)).trans hT
    have new : ObjOk X.prog X.w (upd H s.heap.objs.size (.tup [.str ⟨#[c]⟩, .str ⟨#[d]⟩])) h'' s.heap.objs.size (.tup [.str ⟨#[c]⟩, .str ⟨#[d]⟩]) :=
      ⟨by show 2 ≤ sizeLine; decide, [.str ⟨#[c]⟩ u1, .str ⟨#[d]⟩ u2], .cons ⟨u1, rfl⟩ (.cons ⟨u2, rfl⟩ .nil), ⟨_, hT2, rfl, _, rfl⟩⟩
    have I1 : Inv X pins σ (upd H s.heap.objs.size (.tup [.str ⟨#[c]⟩, .str ⟨#[d]⟩])) { s with heap := h'', toks := tk } :=
      I.turnedNew (t' := tk) (ch := [z, TI, TO, i1, i2]) (fun c o hb q => (sb.2 c (fun q' => hb (by simp [q']))).trans (hk c o (fun q' => hb (by simp [q'])) (fun q' => hb (by simp [q'])) (fun q' => hb (by simp [q'])) (fun q' => hb (by simp [q'])) q)) hf (Nat.le_refl _) new
    have zi1 : i1 ≠ z := fun q => D.zi1 q.symm
    have zi2 : i2 ≠ z := fun q => D.zi2 q.symm
    refine ⟨.ref s.heap.objs.size, _, I1, rfl, ⟨_, c, d, rfl, I.hok.fresh (Nat.le_refl _), rfl, hc1, hc2⟩, ⟨z'', ?_, ⟨.str ⟨#[c]⟩ u1, .str ⟨#[d]⟩ u2, ?_⟩, ?_, ?_, hg.1, hg.2⟩, fun c hcm => ?_⟩
    · exact (sb.2 _ D.TIz).trans (hk _ _ D.TIz D.TITO D.TIi1 D.TIi2 hTI)
    · exact (sb.2 _ D.TOz).trans TO'
    · obtain ⟨o, q, r⟩ := h1'; exact ⟨o, (sb.2 _ zi1).trans q, r⟩
    · obtain ⟨o, q, r⟩ := h2'; exact ⟨o, (sb.2 _ zi2).trans q, r⟩
    · have hlt : c < s.heap.objs.size := by
        have e' : c = z ∨ c = TI ∨ c = TO ∨ c = i1 ∨ c = i2 := by simpa using hcm
        rcases e' with q | q | q | q | q
        · rw [q]; exact hzl
        · rw [q]; exact Heap.lt_size hTI
        · rw [q]; exact Heap.lt_size hTO
        · rw [q]; obtain ⟨_, e1, _⟩ := h1; exact Heap.lt_size e1
        · rw [q]; obtain ⟨_, e2, _⟩ := h2; exact Heap.lt_size e2
      rw [upd_ne (Nat.ne_of_lt hlt)]
      exact (hf c hcm).1
  done := by
    intro X hP hw hK hc i pins s σ H E I hf st hg
    subst hP hw hK
    obtain ⟨hz, hTI, ⟨a0, b0, hTO⟩, h1, h2, l1, l2⟩ := st
    have hd := I.ok.hd hc
    have hend : i = x.cps.size ∨ i = y.cps.size := by rcases hg with q | q <;> omega
    exact wpAny_pyNext_zipD2_end D (Draws.text (show X.A.in1.handled = none from hd) i1 x t) (Draws.text (show X.A.in1.handled = none from hd) i2 y u) hz hTI hTO h1 h2 l1 l2 hend fun h' tk hk => ⟨rfl, I.turnedL (t' := tk) (ch := [z, TI, TO, i1, i2]) (fun c o hb q =>
      hk c o (fun q' => hb (by simp [q'])) (fun q' => hb (by simp [q'])) (fun q' => hb (by simp [q'])) (fun q' => hb (by simp [q'])) q) hf⟩
  self := fun A i s Q E st h => wpAny_pyIter_zip st.1 h
/-- what zip(v1, v2) of two texts leaves -/
theorem zip_texts {prog : Program} {w : World} {A : Around} {E : Value → Shared → Prop} {s : Shared} {x y : Str} {t u : Tok} {Q : Value → Shared → Prop}
    (h : ∀ h', zsSt x y t u (s.heap.objs.size + 4) (s.heap.objs.size + 2) (s.heap.objs.size + 3) s.heap.objs.size (s.heap.objs.size + 1) 0 h' → h'.objs.size = s.heap.objs.size + 5 →
      (∀ c o, s.heap.get? c = some o → h'.get? c = some o) → Q (.ref (s.heap.objs.size + 4)) { s with heap := h' }) :
    wpAny (model prog w) A (call (.type "zip") [.str x t, .str y u]) Q E s :=
  zip_begins2 (begins_text x t) (begins_text y u) trivial trivial fun h' hz hTI hTO g1 g2 hsz hk =>
    h h' ⟨hz, hTI, ⟨_, _, hTO⟩, ⟨_, g1, rfl, rfl⟩, ⟨_, g2, rfl, rfl⟩, Nat.zero_le _, Nat.zero_le _⟩ hsz hk
theorem sep_new (N : Nat) : ZipSep2 (N + 4) (N + 2) (N + 3) N (N + 1) [N] [N + 1] := zip_sep2 (N := N) (fp1 := []) (fp2 := []) (fun _ h => nomatch h) (fun _ h => nomatch h)
def iZipS (ta : TA) : TI := fun σ H R => ta σ H fun vs H1 => ∃ x y : Str, vs = [.str x, .str y] ∧ R (ItzS x y) H1
theorem iter_zipS {X : Cx} {pins : List (Addr × Obj)} {σ : L2.St} {H1 : Hp} {s1 : Shared} {R : It → Hp → Prop} {x y : Str} {t u : Tok} {elts : List Expr} {kk : Nat} {tpos : Pos} (I1 : Inv X pins σ H1 s1) (q : R (ItzS x y) H1) :
    wpAny (model X.prog X.w) X.A (call (.type "zip") [.str x t, .str y u]) (fun v s2 => wpAny (model X.prog X.w) X.A (pyIter v) (PIE X pins σ (.Tuple elts kk tpos) R) X.xe s2) X.xe s1 := by
  have fresh5 : ∀ c, c ∈ [s1.heap.objs.size + 4, s1.heap.objs.size + 2, s1.heap.objs.size + 3, s1.heap.objs.size, s1.heap.objs.size + 1] → FpOk X pins H1 c := fun c hcm => by
    have e' : c = s1.heap.objs.size + 4 ∨ c = s1.heap.objs.size + 2 ∨ c = s1.heap.objs.size + 3 ∨ c = s1.heap.objs.size ∨ c = s1.heap.objs.size + 1 := by simpa using hcm
    have hle : s1.heap.objs.size ≤ c := by
      rcases e' with z | z | z | z | z
      · rw [z]; exact Nat.le_add_right _ _
      · rw [z]; exact Nat.le_add_right _ _
      · rw [z]; exact Nat.le_add_right _ _
      · rw [z]; exact Nat.le_refl _
      · rw [z]; exact Nat.le_add_right _ _
    exact I1.fpOk hle (I1.hok.fresh hle)
  refine zip_texts fun h' st hsz hk => wpAny_pyIter_zip st.1 ?_
  have I2 : Inv X pins σ H1 { s1 with heap := h' } := I1.kept (t' := s1.toks) hk
  exact ⟨s1.heap.objs.size + 4, [s1.heap.objs.size + 4, s1.heap.objs.size + 2, s1.heap.objs.size + 3, s1.heap.objs.size, s1.heap.objs.size + 1], _, _, H1, rfl, I2, turn_zipS (sep_new _), st, fresh5, q⟩
theorem vals_texts {x y : Str} {us : List Value} (r : Vals [.str x, .str y] us) : ∃ t u, us = [.str x t, .str y u] := by
  cases r with
  | cons r rr => cases rr with
    | cons r' rr => cases rr; obtain ⟨t, rfl⟩ := r; obtain ⟨u, rfl⟩ := r'; exact ⟨t, u, rfl⟩
theorem pi_zipS {X : Cx} {e e2 : Expr} {ta : TA} {p pos tpos : Pos} {elts : List Expr} {kk : Nat} (hg : Gl X "zip") (hm : X.mg "zip" = none) (ha : PA X [e, e2] ta)
    (hs : starEach [e, e2] X.env = (false, eval e X.env) :: starEach [e2] X.env := by rfl) (hpl : (backTo pos (starEach [e2] X.env)).any (·.1) = false := by rfl) :
    PI X (.Tuple elts kk tpos) (.Call (.Name "zip" p) [e, e2] [] pos) (iZipS ta) := by
  refine ⟨fun pins s σ H R I h => ?_⟩
  refine Call_ (ld_blt I hg hm PyProof.Rows.boot_zip (PyProof.Rows.callWith_type1 (thn (ha.run pos pins s σ H _ I h) fun us s1 ⟨vs, H1, I1, r1, q1⟩ => ?_) hs hpl))
  obtain ⟨x, y, rfl, q⟩ := q1
  obtain ⟨t, u, rfl⟩ := vals_texts r1
  exact iter_zipS I1 q
/-- zip( *e ), e a list or a tuple of two texts -/
theorem keeper_ty {M : Model} (T : String) (h : Heap) : PySem.W.Looks M h (keeperOf (.type T)) Keeper.machine := .of_pure rfl
def iZipStar (K : PySem.W.Frag) (te : TE) : TI := fun σ H R => te σ H fun v H1 => ∃ (a : Addr) (x y : Str), v = .ref a ∧ (SqT K H1 a [.str x, .str y] ∨ SqL K H1 a [.str x, .str y]) ∧ R (ItzS x y) H1
theorem pi_zipStar {X : Cx} {e : Expr} {te : TE} {p sp pos tpos : Pos} {elts : List Expr} {kk : Nat} (hg : Gl X "zip") (hm : X.mg "zip" = none) (he : PE X e te)
    (hst : starEach [.Starred e sp] X.env = [(true, eval e X.env)] := by rfl) :
    PI X (.Tuple elts kk tpos) (.Call (.Name "zip" p) [.Starred e sp] [] pos) (iZipStar X.K te) := by
  refine ⟨fun pins s σ H R I h => ?_⟩
  refine Call_ (ld_blt I hg hm PyProof.Rows.boot_zip ?_)
  rw [hst]
  refine PySem.W.ks_call (P := fun _ => True) rfl (fun _ _ => ⟨.machine, .inr (.inl rfl), keeper_ty _ _⟩) (PySem.W.ks_lone (thn (he.run pins s σ H _ I h) fun v s1 ⟨y, H1, I1, ry, a, x1, y1, ey, hxs, q⟩ => ?_))
  subst ey
  obtain rfl : v = Value.ref a := ry
  refine StX.star_any I1 hxs fun us s2 I2 rv => ⟨trivial, ?_⟩
  obtain ⟨t, u, rfl⟩ := vals_texts rv
  exact iter_zipS I2 q

/-! ### adopting what was made -/
theorem adopt {X : Cx} {pins : List (Addr × Obj)} {σ : L2.St} {H : Hp} {s : Shared} {a : Addr} {o : HO} (I : Inv X pins σ H s) (hf : FpOk X pins H a) (new : ObjOk X.prog X.w (upd H a o) s.heap a o) : Inv X pins σ (upd H a o) s := by
  obtain ⟨f0, f1, f2, f3, f4, f5⟩ := hf
  have r := I.step (g' := s.gens) (d' := s.drawn) (t' := s.toks) (h' := s.heap) (H' := upd H a o) (ch := [a])
    (fun b hb => by have e : b = a := by simpa using hb
                    subst e; exact ⟨f3, f1, f4, f5⟩)
    (fun b ob _ _ _ e _ => e) (fun b ob _ _ _ e _ => ⟨ob.slots, e⟩) (fun b ob hb _ n => by rw [upd_ne (by simpa using hb)]; exact n) (fun b ob _ e => ⟨ob, e⟩)
    (fun b xs e => by rw [upd_ne (ne_of_none e f0)]; exact e) (fun b ob u e => by rw [upd_ne (ne_of_none e f0)]; exact e) (fun b ps e => ⟨#[], by rw [upd_ne (ne_of_none e f0), e]; simp⟩) (fun m hm => hm)
    (fun b u e => by
      by_cases hb : b = a
      · subst hb; rw [upd_same] at e; cases e; exact new
      · rw [upd_ne hb] at e
        exact (I.hok b u e).stay (fun c v _ q => q) (fun c q => by rw [upd_ne (ne_of_none q f0)]; exact q) fun c xs q => by rw [upd_ne (ne_of_none q f0)]; exact q) I.bare
  exact r
def updT (H : Hp) : List (Addr × List V) → Hp
  | [] => H
  | p :: r => updT (upd H p.1 (.tup p.2)) r
theorem updT_ne {a : Addr} : ∀ {l : List (Addr × List V)} {H : Hp}, (∀ p ∈ l, a ≠ p.1) → updT H l a = H a
  | [], _, _ => rfl
  | p :: r, H, h => by
    unfold updT
    rw [updT_ne fun q hq => h q (List.mem_cons_of_mem _ hq), upd_ne (h p List.mem_cons_self)]
theorem adopts {X : Cx} {pins : List (Addr × Obj)} {σ : L2.St} {s : Shared} : ∀ {l : List (Addr × List V)} {H : Hp}, Inv X pins σ H s → (l.map (·.1)).Nodup → (∀ p ∈ l, FpOk X pins H p.1 ∧ p.2.length ≤ sizeLine ∧ ∃ its : List Value, Vals p.2 its ∧ IsTup s.heap p.1 its.toArray) → Inv X pins σ (updT H l) s
  | [], _, I, _, _ => I
  | p :: r, H, I, nd, h => by
    rw [List.map_cons, List.nodup_cons] at nd
    obtain ⟨f, z, its, rv, tp⟩ := h p List.mem_cons_self
    refine adopts (l := r) (adopt (o := .tup p.2) I f ⟨z, its, rv, tp⟩) nd.2 fun q hq => ?_
    obtain ⟨⟨g0, g⟩, z', x⟩ := h q (List.mem_cons_of_mem _ hq)
    have ne : q.1 ≠ p.1 := fun e => nd.1 (e ▸ List.mem_map_of_mem hq)
    exact ⟨⟨by rw [upd_ne ne]; exact g0, g⟩, z', x⟩

/-! ### list(zip(a, b)) of two texts -/
section
variable {prog : Program} {w : World} {A : Around} {E : Value → Shared → Prop} {s : Shared} {z TI TO i1 i2 : Addr} {fp1 fp2 : List Addr} {n1 n2 i : Nat} {P1 P2 : Nat → Value → Prop} {St1 St2 : Nat → Heap → Prop} {T : Addr} {f : Bool} {oT : Obj}
theorem zipH_item {Q : Value → Shared → Prop} (S : ZipSep2 z TI TO i1 i2 fp1 fp2) (D1 : Draws prog w A i1 fp1 n1 P1 St1) (D2 : Draws prog w A i2 fp2 n2 P2 St2)
    (hz : IsZipHeld s.heap z TI TO T f) (hT : s.heap.get? T = some oT) (hTI : IsTupOf2 s.heap TI (.ref i1) (.ref i2)) (st1 : St1 i s.heap) (st2 : St2 i s.heap) (hlt1 : i < n1) (hlt2 : i < n2)
    (hQ : ∀ x1 x2 h' tk, P1 i x1 → P2 i x2 → IsZipHeld h' z TI TO T true → St1 (i + 1) h' → St2 (i + 1) h' → IsTupOf2 h' s.heap.objs.size x1 x2 → h'.objs.size = s.heap.objs.size + 1 →
      (∀ c o, c ≠ z → c ≠ i1 → c ≠ i2 → s.heap.get? c = some o → h'.get? c = some o) → Q (.ref s.heap.objs.size) { s with heap := h', toks := tk }) :
    wpAny (model prog w) A (Builtin.«zip.__next__» ⟨[.ref z], []⟩) (fun fin s' => ∃ v, fin = .done (.ret v) ∧ Q v s') E s := by
  obtain ⟨hp, g, d, tk0, os⟩ := s
  show wpAny _ _ (field (.ref z) 2 >>= _) _ _ _
  refine wpAny_bind (wpAny_field hz rfl (x := .bool false) rfl ?_)
  show wpAny _ _ (field (.ref z) 3 >>= _) _ _ _
  refine wpAny_bind (wpAny_field hz rfl (x := .ref TI) rfl ?_)
  refine wpAny_bind (wpAny_seqItems hTI rfl ?_)
  show wpAny _ _ (Builtin.SmallTypes.ownedTupleIsFree (.ref z) >>= _) _ _ _
  refine wpAny_bind (wpAny_tupleHeld_zip hz hT fun h₁ hz₁ hs₁ => ?_)
  replace hs₁ : Heap.SameBut z hp h₁ := hs₁
  simp only [Bool.false_eq_true, if_false]
  refine wpAny_bind ?_
  rw [← Array.forIn_toList]
  simp only [List.forIn_cons, List.forIn_nil]
  refine wpAny_bind (wpAny_bind (wpAny_holding ?_))
  show wpAny _ _ (Builtin.SmallTypes.nextOf (.ref i1) >>= _) _ _ ⟨h₁, g, d, tk0, os⟩
  refine wpAny_bind (D1.item i _ _ _ hlt1 (D1.over st1 hs₁ S.zf1) fun x1 p1 tk1 hx1 sn1 hp1 => wpAny_pure ?_)
  replace hp1 : Heap.SameBut i1 h₁ p1 := hp1
  refine wpAny_pure ?_
  refine wpAny_bind (wpAny_bind (wpAny_holding ?_))
  show wpAny _ _ (Builtin.SmallTypes.nextOf (.ref i2) >>= _) _ _ ⟨p1, g, d, tk1, os⟩
  refine wpAny_bind (D2.item i _ _ _ hlt2 (D2.over (D2.over st2 hs₁ S.zf2) hp1 S.sep1_2) fun x2 p2 tk2 hx2 sn2 hp2 => wpAny_pure ?_)
  replace hp2 : Heap.SameBut i2 p1 p2 := hp2
  refine wpAny_pure (wpAny_pure ?_)
  show wpAny _ _ (newTuple [x1, x2] >>= _) _ _ ⟨p2, g, d, tk2, os⟩
  refine wpAny_bind (wpAny_newTuple ?_)
  have hsz : p2.objs.size = hp.objs.size := by rw [hp2.1, hp1.1, hs₁.1]
  have hz₃ : IsZipHeld p2 z TI TO T true := hp2.extBut _ _ S.zi2 (hp1.extBut _ _ S.zi1 hz₁)
  have hk : ∀ c o, c ≠ z → c ≠ i1 → c ≠ i2 → hp.get? c = some o → p2.get? c = some o := fun c o c1 c2 c3 e => hp2.extBut _ _ c3 (hp1.extBut _ _ c2 (hs₁.extBut _ _ c1 e))
  have hj1 : St1 (i + 1) p2 := D1.over sn1 hp2 S.sep2_1
  refine wpAny_pure ⟨_, rfl, ?_⟩
  show Q (.ref p2.objs.size) ⟨p2.push { cls := .type "tuple", data := .seq #[x1, x2] }, g, d, tk2, os⟩
  have hpr : IsTupOf2 (p2.push { cls := .type "tuple", data := .seq #[x1, x2] }) p2.objs.size x1 x2 := Heap.get?_push_size _ rfl
  have hz4 : (p2.push { cls := .type "tuple", data := .seq #[x1, x2] }).objs.size = p2.objs.size + 1 := Heap.size_push ..
  rw [hsz] at hpr hz4 ⊢
  exact hQ x1 x2 _ tk2 hx1 hx2 (Heap.get?_push_of_some _ hz₃) (D1.frame _ _ _ hj1 fun b _ o e => Heap.get?_push_of_some _ e) (D2.frame _ _ _ sn2 fun b _ o e => Heap.get?_push_of_some _ e) hpr hz4 fun c o c1 c2 c3 e => Heap.get?_push_of_some _ (hk c o c1 c2 c3 e)
theorem zipH_end {Q : Fin → Shared → Prop} (S : ZipSep2 z TI TO i1 i2 fp1 fp2) (D1 : Draws prog w A i1 fp1 n1 P1 St1) (D2 : Draws prog w A i2 fp2 n2 P2 St2)
    (hz : IsZipHeld s.heap z TI TO T f) (hT : s.heap.get? T = some oT) (hTI : IsTupOf2 s.heap TI (.ref i1) (.ref i2)) (st1 : St1 i s.heap) (st2 : St2 i s.heap) (hle1 : i ≤ n1) (hle2 : i ≤ n2) (hend : i = n1 ∨ i = n2)
    (hE : ∀ h' tk e, (∀ c o, c ≠ z → c ≠ i1 → c ≠ i2 → s.heap.get? c = some o → h'.get? c = some o) → (∃ o, h'.get? e = some o ∧ o.cls = .type "StopIteration") → E (.ref e) { s with heap := h', toks := tk }) :
    wpAny (model prog w) A (Builtin.«zip.__next__» ⟨[.ref z], []⟩) Q E s := by
  obtain ⟨hp, g, d, tk0, os⟩ := s
  show wpAny _ _ (field (.ref z) 2 >>= _) _ _ _
  refine wpAny_bind (wpAny_field hz rfl (x := .bool false) rfl ?_)
  show wpAny _ _ (field (.ref z) 3 >>= _) _ _ _
  refine wpAny_bind (wpAny_field hz rfl (x := .ref TI) rfl ?_)
  refine wpAny_bind (wpAny_seqItems hTI rfl ?_)
  show wpAny _ _ (Builtin.SmallTypes.ownedTupleIsFree (.ref z) >>= _) _ _ _
  refine wpAny_bind (wpAny_tupleHeld_zip hz hT fun h₁ hz₁ hs₁ => ?_)
  replace hs₁ : Heap.SameBut z hp h₁ := hs₁
  simp only [Bool.false_eq_true, if_false]
  refine wpAny_bind ?_
  rw [← Array.forIn_toList]
  simp only [List.forIn_cons, List.forIn_nil]
  refine wpAny_bind (wpAny_bind (wpAny_holding ?_))
  show wpAny _ _ (Builtin.SmallTypes.nextOf (.ref i1) >>= _) _ _ ⟨h₁, g, d, tk0, os⟩
  by_cases hlt1 : i < n1
  · refine wpAny_bind (D1.item i _ _ _ hlt1 (D1.over st1 hs₁ S.zf1) fun x1 p1 tk1 hx1 sn1 hp1 => wpAny_pure ?_)
    replace hp1 : Heap.SameBut i1 h₁ p1 := hp1
    refine wpAny_pure ?_
    have hi2 : i = n2 := by omega
    refine wpAny_bind (wpAny_bind (wpAny_holding ?_))
    show wpAny _ _ (Builtin.SmallTypes.nextOf (.ref i2) >>= _) _ _ ⟨p1, g, d, tk1, os⟩
    refine wpAny_bind (D2.done ⟨p1, g, d, tk1, os⟩ _ _ (by rw [← hi2]; exact (D2.over (D2.over st2 hs₁ S.zf2) hp1 S.sep1_2)) fun q e hq he => ?_)
    exact hE q tk1 e (fun c o c1 c2 c3 x => hq _ _ c3 (hp1.extBut _ _ c2 (hs₁.extBut _ _ c1 x))) he
  · have hi1 : i = n1 := by omega
    refine wpAny_bind (D1.done ⟨h₁, g, d, tk0, os⟩ _ _ (by rw [← hi1]; exact (D1.over st1 hs₁ S.zf1)) fun q e hq he => ?_)
    exact hE q tk0 e (fun c o c1 c2 c3 x => hq _ _ c2 (hs₁.extBut _ _ c1 x)) he
theorem nextH_item {Q : Option Value → Shared → Prop} (S : ZipSep2 z TI TO i1 i2 fp1 fp2) (D1 : Draws prog w A.in1 i1 fp1 n1 P1 St1) (D2 : Draws prog w A.in1 i2 fp2 n2 P2 St2)
    (hz : IsZipHeld s.heap z TI TO T f) (hT : s.heap.get? T = some oT) (hTI : IsTupOf2 s.heap TI (.ref i1) (.ref i2)) (st1 : St1 i s.heap) (st2 : St2 i s.heap) (hlt1 : i < n1) (hlt2 : i < n2)
    (hQ : ∀ x1 x2 h' tk, P1 i x1 → P2 i x2 → IsZipHeld h' z TI TO T true → St1 (i + 1) h' → St2 (i + 1) h' → IsTupOf2 h' s.heap.objs.size x1 x2 → h'.objs.size = s.heap.objs.size + 1 →
      (∀ c o, c ≠ z → c ≠ i1 → c ≠ i2 → s.heap.get? c = some o → h'.get? c = some o) → Q (some (.ref s.heap.objs.size)) { s with heap := h', toks := tk }) :
    wpAny (model prog w) A (pyNext (.ref z)) Q E s := by
  have hTy : s.TypeIs (.ref z) "zip" := ⟨_, hz, rfl⟩
  unfold pyNext
  exact wpAny_bind (wpAny_attempt (wpAny_callSpecial?_slot (name := Str.ofString "__next__") hTy F.slot_zip_next
    (wpAny_call_entry F.slot_zip_next hTy F.entry_zip_next
      (zipH_item S D1 D2 hz hT hTI st1 st2 hlt1 hlt2 fun x1 x2 h' tk a1 a2 a3 a4 a5 a6 a7 a8 => wpAny_pure (hQ x1 x2 h' tk a1 a2 a3 a4 a5 a6 a7 a8)) (F.args_zip_next_1 _))))
theorem nextH_end {Q : Option Value → Shared → Prop} (S : ZipSep2 z TI TO i1 i2 fp1 fp2) (D1 : Draws prog w A.in1 i1 fp1 n1 P1 St1) (D2 : Draws prog w A.in1 i2 fp2 n2 P2 St2)
    (hz : IsZipHeld s.heap z TI TO T f) (hT : s.heap.get? T = some oT) (hTI : IsTupOf2 s.heap TI (.ref i1) (.ref i2)) (st1 : St1 i s.heap) (st2 : St2 i s.heap) (hle1 : i ≤ n1) (hle2 : i ≤ n2) (hend : i = n1 ∨ i = n2)
    (hQ : ∀ h' tk, (∀ c o, c ≠ z → c ≠ i1 → c ≠ i2 → s.heap.get? c = some o → h'.get? c = some o) → Q none { s with heap := h', toks := tk }) : wpAny (model prog w) A (pyNext (.ref z)) Q E s := by
  have hTy : s.TypeIs (.ref z) "zip" := ⟨_, hz, rfl⟩
  unfold pyNext
  refine wpAny_bind (wpAny_attempt (wpAny_callSpecial?_slot (name := Str.ofString "__next__") hTy F.slot_zip_next
    (wpAny_call_entry F.slot_zip_next hTy F.entry_zip_next (zipH_end S D1 D2 hz hT hTI st1 st2 hle1 hle2 hend fun h' tk e hk he => ?_) (F.args_zip_next_1 _))))
  obtain ⟨o, ho, hc⟩ := he
  refine wpAny_bind (wpAny_isInstance (T := "StopIteration") (b := true) ⟨o, ho, hc⟩ isSubtype_stop ?_)
  exact wpAny_pure (hQ _ _ hk)
end

abbrev LObj (acc : Array Value) (c : Nat) : Obj := { cls := .type "list", dict := none, data := .seq acc c, slots := #[] }
def ZCh (x y : Str) (j : Nat) (p : Addr × Value × Value) : Prop := ∃ (c d : Nat) (a b : Tok), x.cps[j]? = some c ∧ y.cps[j]? = some d ∧ p.2.1 = Value.str ⟨#[c]⟩ a ∧ p.2.2 = Value.str ⟨#[d]⟩ b
structure ZB (x y : Str) (S M : Addr) (h0 : Heap) (l : List (Addr × Value × Value)) (h : Heap) : Prop where
  lst : ∃ c, h.get? S = some (LObj (l.map fun p => Value.ref p.1).toArray c)
  old : ∀ b o, h0.get? b = some o → h.get? b = some o
  tup : ∀ p ∈ l, M ≤ p.1 ∧ IsTupOf2 h p.1 p.2.1 p.2.2
  nd : (l.map (·.1)).Nodup
  ch : ∀ j p, l[j]? = some p → ZCh x y j p
structure ZC (x y : Str) (t u : Tok) (z TI TO i1 i2 : Addr) (i : Nat) (h : Heap) : Prop where
  zip : (IsZip h z TI TO .none ∧ ∃ a b, IsTupOf2 h TO a b) ∨ ∃ T f oT, IsZipHeld h z TI TO T f ∧ h.get? T = some oT
  ti : IsTupOf2 h TI (.ref i1) (.ref i2)
  s1 : h.IsStrIter i1 (strIterType x) x t i
  s2 : h.IsStrIter i2 (strIterType y) y u i
section
variable {x y : Str} {t u : Tok} {z TI TO i1 i2 S M : Addr} {h0 h h' : Heap} {l : List (Addr × Value × Value)}
theorem ZB.keep (B : ZB x y S M h0 l h) (hM : z < M ∧ TO < M ∧ i1 < M ∧ i2 < M) (h0' : h0.objs.size ≤ z ∧ h0.objs.size ≤ TO ∧ h0.objs.size ≤ i1 ∧ h0.objs.size ≤ i2) (hS : S ≠ z ∧ S ≠ TO ∧ S ≠ i1 ∧ S ≠ i2)
    (hk : ∀ c o, c ≠ z → c ≠ TO → c ≠ i1 → c ≠ i2 → h.get? c = some o → h'.get? c = some o) : ZB x y S M h0 l h' where
  lst := let ⟨c, e⟩ := B.lst; ⟨c, hk _ _ hS.1 hS.2.1 hS.2.2.1 hS.2.2.2 e⟩
  old := fun b o e => by
    have lt : b < h0.objs.size := Heap.lt_size e
    exact hk b o (Nat.ne_of_lt (Nat.lt_of_lt_of_le lt h0'.1)) (Nat.ne_of_lt (Nat.lt_of_lt_of_le lt h0'.2.1)) (Nat.ne_of_lt (Nat.lt_of_lt_of_le lt h0'.2.2.1)) (Nat.ne_of_lt (Nat.lt_of_lt_of_le lt h0'.2.2.2)) (B.old b o e)
  tup := fun p hp => by
    obtain ⟨a, c⟩ := B.tup p hp
    exact ⟨a, hk _ _ (Nat.ne_of_gt (Nat.lt_of_lt_of_le hM.1 a)) (Nat.ne_of_gt (Nat.lt_of_lt_of_le hM.2.1 a)) (Nat.ne_of_gt (Nat.lt_of_lt_of_le hM.2.2.1 a)) (Nat.ne_of_gt (Nat.lt_of_lt_of_le hM.2.2.2 a)) c⟩
  nd := B.nd
  ch := B.ch
theorem ZC.frame {i : Nat} (C : ZC x y t u z TI TO i1 i2 i h) (hS : S ≠ z ∧ S ≠ TI ∧ S ≠ TO ∧ S ≠ i1 ∧ S ≠ i2) (hk : ∀ c o, c ≠ S → h.get? c = some o → h'.get? c = some o) (ht : ∀ T o, h.get? T = some o → ∃ o', h'.get? T = some o') : ZC x y t u z TI TO i1 i2 i h' where
  zip := by
    rcases C.zip with ⟨a, b, c, d⟩ | ⟨T, f, oT, a, b⟩
    · exact .inl ⟨hk _ _ (Ne.symm hS.1) a, b, c, hk _ _ (Ne.symm hS.2.2.1) d⟩
    · obtain ⟨o', e⟩ := ht _ _ b
      exact .inr ⟨T, f, o', hk _ _ (Ne.symm hS.1) a, e⟩
  ti := hk _ _ (Ne.symm hS.2.1) C.ti
  s1 := let ⟨o, e, r⟩ := C.s1; ⟨o, hk _ _ (Ne.symm hS.2.2.2.1) e, r⟩
  s2 := let ⟨o, e, r⟩ := C.s2; ⟨o, hk _ _ (Ne.symm hS.2.2.2.2) e, r⟩
/-- the new tuple is put behind the list -/
theorem ZB.push {T : Addr} {x1 x2 : Value} (B : ZB x y S M h0 l h) (hT : M ≤ T ∧ IsTupOf2 h T x1 x2) (hn : ∀ p ∈ l, p.1 ≠ T) (hc : ZCh x y l.length (T, x1, x2))
    (hSM : S < M) (hS0 : h0.objs.size ≤ S) (hk : ∀ c o, c ≠ S → h.get? c = some o → h'.get? c = some o) (hl : ∃ c, h'.get? S = some (LObj ((l.map fun p => Value.ref p.1).toArray.push (.ref T)) c)) : ZB x y S M h0 (l ++ [(T, x1, x2)]) h' where
  lst := by obtain ⟨c, e⟩ := hl; exact ⟨c, by rw [e]; simp⟩
  old := fun b o e => hk b o (Nat.ne_of_lt (Nat.lt_of_lt_of_le (Heap.lt_size e) hS0)) (B.old b o e)
  tup := fun p hp => by
    rcases List.mem_append.mp hp with hp | hp
    · obtain ⟨a, c⟩ := B.tup p hp
      exact ⟨a, hk _ _ (Nat.ne_of_gt (Nat.lt_of_lt_of_le hSM a)) c⟩
    · have e : p = (T, x1, x2) := by simpa using hp
      subst e
      exact ⟨hT.1, hk _ _ (Nat.ne_of_gt (Nat.lt_of_lt_of_le hSM hT.1)) hT.2⟩
  nd := by
    rw [List.map_append, List.nodup_append]
    refine ⟨B.nd, by simp, fun a ha b hb => ?_⟩
    have e : b = T := by simpa using hb
    subst e
    obtain ⟨p, hp, rfl⟩ := List.mem_map.mp ha
    exact hn p hp
  ch := fun j p e => by
    by_cases hj : j < l.length
    · rw [List.getElem?_append_left hj] at e; exact B.ch j p e
    · have hj' : j = l.length := by
        have := (List.getElem?_eq_some_iff.mp e).1
        simp at this; omega
      subst hj'
      rw [List.getElem?_append_right (Nat.le_refl _)] at e
      simp at e; subst e
      exact hc
end
section
variable {prog : Program} {w : World} {A : Around} {R : Result → Shared → Prop} {x y : Str} {t u : Tok} {z TI TO i1 i2 S M : Addr} {h0 : Heap}
theorem zl_loop (hh : A.handled = none) (D : ZipSep2 z TI TO i1 i2 [i1] [i2]) (hM : S < M ∧ z < M ∧ TO < M ∧ i1 < M ∧ i2 < M) (h0' : h0.objs.size ≤ S ∧ h0.objs.size ≤ z ∧ h0.objs.size ≤ TO ∧ h0.objs.size ≤ i1 ∧ h0.objs.size ≤ i2)
    (hS : S ≠ z ∧ S ≠ TI ∧ S ≠ TO ∧ S ≠ i1 ∧ S ≠ i2) (n : Nat) (hn : n = min x.cps.size y.cps.size) (hz : n ≤ sizeLine) (res : Value) :
    ∀ (k : Nat) (l : List (Addr × Value × Value)) (s : Shared), n - l.length = k → l.length ≤ n → M ≤ s.heap.objs.size → ZB x y S M h0 l s.heap → ZC x y t u z TI TO i1 i2 l.length s.heap →
      (∀ h' tk l', l'.length = n → ZB x y S M h0 l' h' → R (.ok (.ret res)) { s with heap := h', toks := tk }) →
      codeAny (model prog w) A (.builtin "list.extend.loop" ⟨[.ref S, .ref z, res], []⟩) R s := by
  intro k
  have hd : A.in1.in1.handled = none := hh
  have hM' : z < M ∧ TO < M ∧ i1 < M ∧ i2 < M := hM.2
  have h0'' : h0.objs.size ≤ z ∧ h0.objs.size ≤ TO ∧ h0.objs.size ≤ i1 ∧ h0.objs.size ≤ i2 := h0'.2
  have hS' : S ≠ z ∧ S ≠ TO ∧ S ≠ i1 ∧ S ≠ i2 := ⟨hS.1, hS.2.2.1, hS.2.2.2.1, hS.2.2.2.2⟩
  induction k with
  | zero =>
    intro l s hk hl hb B C hR
    have hin : l.length = n := by omega
    refine codeAny_builtin F.entry_extend_loop ?_
    rw [Around.under_plainId F.plain_extend_loop _]
    show wpAny _ A.in1 (pyNext (.ref z) >>= _) _ _ s
    have e1 : l.length ≤ x.cps.size := by omega
    have e2 : l.length ≤ y.cps.size := by omega
    have e3 : l.length = x.cps.size ∨ l.length = y.cps.size := by omega
    rcases C.zip with ⟨hz', a, b, hTO⟩ | ⟨T, f, oT, hz', hT⟩
    · refine wpAny_bind (wpAny_pyNext_zipD2_end D (Draws.text hd i1 x t) (Draws.text hd i2 y u) hz' C.ti hTO C.s1 C.s2 e1 e2 e3 fun h' tk hk' => ?_)
      exact wpAny_pure (hR h' tk l hin (B.keep hM' h0'' hS' hk'))
    · refine wpAny_bind (nextH_end D (Draws.text hd i1 x t) (Draws.text hd i2 y u) hz' hT C.ti C.s1 C.s2 e1 e2 e3 fun h' tk hk' => ?_)
      exact wpAny_pure (hR h' tk l hin (B.keep hM' h0'' hS' fun c o a _ b c' e => hk' c o a b c' e))
  | succ k ih =>
    intro l s hk hl hb B C hR
    have hlt : l.length < n := by omega
    have e1 : l.length < x.cps.size := by omega
    have e2 : l.length < y.cps.size := by omega
    -- one turn, from the new tuple on
    have turn : ∀ (h' : Heap) (tk : Nat) (x1 x2 : Value), ZB x y S M h0 l h' → ZC x y t u z TI TO i1 i2 (l.length + 1) h' → IsTupOf2 h' s.heap.objs.size x1 x2 → h'.objs.size = s.heap.objs.size + 1 → ZCh x y l.length (s.heap.objs.size, x1, x2) →
        wpAny (model prog w) A.in1 (updateSeq S (·.push (.ref s.heap.objs.size)) >>= fun _ => again (.builtin "list.extend.loop" ⟨[.ref S, .ref z, res], []⟩))
          (fun fin s' => match fin with | .done f => R (.ok f) s' | .again c' => c'.quiet = true ∧ codeAny (model prog w) A c' R s') (fun e s' => R (.error e) s') { s with heap := h', toks := tk } := by
      intro h' tk x1 x2 B' C' hT hsz hc
      obtain ⟨c, hS1⟩ := B'.lst
      have hup := Heap.get?_update_self (Obj.mapSeq (·.push (Value.ref s.heap.objs.size))) hS1 rfl
      have oth : ∀ b o, b ≠ S → h'.get? b = some o → (h'.update S (Obj.mapSeq (·.push (Value.ref s.heap.objs.size)))).get? b = some o := fun b o hb e => (Heap.get?_update_other _ _ (Ne.symm hb)).trans e
      refine wpAny_bind ?_
      refine wpAny_updateSeq (s := { s with heap := h', toks := tk }) hS1 rfl (wpAny_pure ⟨plainId_quiet F.plain_extend_loop _, ih (l ++ [(s.heap.objs.size, x1, x2)]) _ (by simp; omega) (by simp; omega) ?_ ?_ ?_ fun h2 tk2 l2 a b => hR h2 tk2 l2 a b⟩) ?_ ?_
      · show M ≤ (h'.update S _).objs.size
        rw [(Heap.SameBut.update h' S _).1, hsz]; exact Nat.le_trans hb (Nat.le_succ _)
      · exact B'.push ⟨hb, hT⟩ (fun p hp => Nat.ne_of_lt (Heap.lt_size (B.tup p hp).2)) hc hM.1 h0'.1 oth ⟨_, hup⟩
      · have e : (l ++ [(s.heap.objs.size, x1, x2)]).length = l.length + 1 := by simp
        rw [e]
        refine C'.frame hS oth fun T o e => ?_
        by_cases hTS : T = S
        · subst hTS; exact ⟨_, hup⟩
        · exact ⟨o, oth _ _ hTS e⟩
      · simp; omega
      · simp; omega
    refine codeAny_builtin F.entry_extend_loop ?_
    rw [Around.under_plainId F.plain_extend_loop _]
    show wpAny _ A.in1 (pyNext (.ref z) >>= _) _ _ s
    rcases C.zip with ⟨hz', a, b, hTO⟩ | ⟨T, f, oT, hz', hT⟩
    · refine wpAny_bind (wpAny_pyNext_zipD2_item D (Draws.text hd i1 x t) (Draws.text hd i2 y u) hz' C.ti hTO C.s1 C.s2 e1 e2 fun x1 x2 h' tk y1 y2 z' TO' g1 g2 hT hsz hk' => ?_)
      obtain ⟨c, u1, hc1, q1⟩ := y1
      obtain ⟨d, u2, hc2, q2⟩ := y2
      refine turn h' tk x1 x2 (B.keep hM' h0'' hS' hk') ⟨.inr ⟨_, false, _, z', hT⟩, hk' _ _ D.TIz D.TITO D.TIi1 D.TIi2 C.ti, g1, g2⟩ hT hsz ⟨c, d, u1, u2, hc1, hc2, q1, q2⟩
    · refine wpAny_bind (nextH_item D (Draws.text hd i1 x t) (Draws.text hd i2 y u) hz' hT C.ti C.s1 C.s2 e1 e2 fun x1 x2 h' tk y1 y2 z' g1 g2 hT2 hsz hk' => ?_)
      obtain ⟨c, u1, hc1, q1⟩ := y1
      obtain ⟨d, u2, hc2, q2⟩ := y2
      have hTT : ∃ o', h'.get? T = some o' := by
        by_cases q1 : T = z
        · subst q1; exact ⟨_, z'⟩
        · by_cases q2 : T = i1
          · subst q2; obtain ⟨o, e, _⟩ := g1; exact ⟨o, e⟩
          · by_cases q3 : T = i2
            · subst q3; obtain ⟨o, e, _⟩ := g2; exact ⟨o, e⟩
            · exact ⟨_, hk' _ _ q1 q2 q3 hT⟩
      obtain ⟨o', hT'⟩ := hTT
      exact turn h' tk x1 x2 (B.keep hM' h0'' hS' fun c o a _ b c' e => hk' c o a b c' e) ⟨.inr ⟨T, true, o', z', hT'⟩, hk' _ _ D.TIz D.TIi1 D.TIi2 C.ti, g1, g2⟩ hT2 hsz ⟨c, d, u1, u2, hc1, hc2, q1, q2⟩
end

theorem nolen_zip : typeLookup (.type "zip") "__len__" = pure none := by rw [typeLookup_type, builtinLookup_eq_fast]; kernel_rfl
theorem nohint_zip : typeLookup (.type "zip") "__length_hint__" = pure none := by rw [typeLookup_type, builtinLookup_eq_fast]; kernel_rfl
section
variable {prog : Program} {w : World} {A : Around} {x y : Str} {t u : Tok} {z TI TO i1 i2 S M : Addr} {h0 : Heap}
theorem zip_init {R : Result → Shared → Prop} {s : Shared} (hh : A.handled = none) (D : ZipSep2 z TI TO i1 i2 [i1] [i2]) (hM : S < M ∧ z < M ∧ TO < M ∧ i1 < M ∧ i2 < M) (h0' : h0.objs.size ≤ S ∧ h0.objs.size ≤ z ∧ h0.objs.size ≤ TO ∧ h0.objs.size ≤ i1 ∧ h0.objs.size ≤ i2)
    (hS : S ≠ z ∧ S ≠ TI ∧ S ≠ TO ∧ S ≠ i1 ∧ S ≠ i2) (hz : min x.cps.size y.cps.size ≤ sizeLine) (hb : M ≤ s.heap.objs.size) (old : ∀ b o, h0.get? b = some o → s.heap.get? b = some o) (C : ZC x y t u z TI TO i1 i2 0 s.heap) (hz0 : IsZip s.heap z TI TO .none)
    (hL : s.heap.get? S = some { cls := .type "list", data := .seq #[] })
    (hR : ∀ h' tk l', l'.length = min x.cps.size y.cps.size → ZB x y S M h0 l' h' → R (.ok (.ret .none)) { s with heap := h', toks := tk }) :
    wpAny (model prog w) A.in1 (Builtin.«list.__init__» ⟨[.ref S, .ref z], []⟩)
      (fun fin s' => match fin with | .done f => R (.ok f) s' | .again c' => c'.quiet = true ∧ codeAny (model prog w) A c' R s') (fun e s' => R (.error e) s') s := by
  show wpAny _ A.in1 (do let old ← Builtin.List.listItems (.ref S); Builtin.List.listUpdate (.ref S) (fun _ => #[]); letGo old.toList.reverse; Builtin.List.listExtendWith (.ref S) (.ref z) .none) _ _ s
  refine wpAny_bind ?_
  unfold Builtin.List.listItems
  refine wpAny_bind (wpAny_seqItems hL rfl (wpAny_pure ?_))
  show wpAny _ A.in1 (updateSeq S (fun _ => #[]) >>= fun _ => letGo (#[] : Array Value).toList.reverse >>= fun _ => Builtin.List.listExtendWith (.ref S) (.ref z) .none) _ _ s
  refine wpAny_bind (wpAny_updateSeq hL rfl ?_)
  have hS₂ := Heap.get?_update_self (Obj.mapSeq (fun _ => (#[] : Array Value))) hL rfl
  have oth1 : ∀ b o, b ≠ S → s.heap.get? b = some o → (s.heap.update S (Obj.mapSeq (fun _ => (#[] : Array Value)))).get? b = some o := fun b o hb e => (Heap.get?_update_other _ _ (Ne.symm hb)).trans e
  have C1 : ZC x y t u z TI TO i1 i2 0 (s.heap.update S (Obj.mapSeq (fun _ => (#[] : Array Value)))) := C.frame hS oth1 fun T o e => by
    by_cases hTS : T = S
    · subst hTS; exact ⟨_, hS₂⟩
    · exact ⟨o, oth1 _ _ hTS e⟩
  refine wpAny_bind (wpAny_letGo ?_)
  have zt : ∀ h, ZC x y t u z TI TO i1 i2 0 h → ∀ (tk : Nat), ({ s with heap := h, toks := tk } : Shared).TypeIs (.ref z) "zip" := fun h C tk => by
    rcases C.zip with ⟨a, _⟩ | ⟨T, f, oT, a, _⟩
    · exact ⟨_, a, rfl⟩
    · exact ⟨_, a, rfl⟩
  have h1 : Builtin.List.listSameRef (.ref S) (.ref z) = false := by simp [Builtin.List.listSameRef, hS.1]
  have h2 : (Value.type "zip" == Value.type "list") = false := by decide
  have h3 : (Value.type "zip" == Value.type "tuple") = false := by decide
  unfold Builtin.List.listExtendWith
  refine wpAny_bind (wpAny_typeOf (zt _ C1 s.toks) ?_)
  simp only [h1, h2, h3, Bool.or_false, Bool.false_eq_true, if_false]
  have self : ∀ {Q : Value → Shared → Prop} {E : Value → Shared → Prop} {A' : Around}, Q (.ref z) { s with heap := s.heap.update S (Obj.mapSeq (fun _ => (#[] : Array Value))) } → wpAny (model prog w) A' (pyIter (.ref z)) Q E { s with heap := s.heap.update S (Obj.mapSeq (fun _ => (#[] : Array Value))) } := fun q => by
    exact wpAny_pyIter_zip (oth1 _ _ (Ne.symm hS.1) hz0) q
  refine wpAny_bind (self ?_)
  refine wpAny_bind (wpAny_holding ?_)
  unfold Builtin.List.listLengthHint
  refine wpAny_bind (wpAny_specialOf (zt _ C1 s.toks) nolen_zip ?_)
  show wpAny _ A.in1 (specialOf (Value.ref z) (Str.ofString "__length_hint__") >>= _) _ _ _
  refine wpAny_bind (wpAny_specialOf (zt _ C1 s.toks) nohint_zip ?_)
  refine wpAny_pure ?_
  show wpAny _ A.in1 (rule "list.extend.makes-room" >>= fun _ => Builtin.List.listTouch (.ref S) >>= fun _ =>
    again (.builtin "list.extend.loop" ⟨[.ref S, .ref z, .none], []⟩)) _ _ _
  refine wpAny_bind (wpAny_rule ?_)
  refine wpAny_bind ?_
  show wpAny _ A.in1 (updateSeq S (·.push .none) >>= fun _ => updateSeq S (·.pop)) _ _ _
  refine wpAny_bind (wpAny_updateSeq hS₂ rfl ?_)
  have hS₃ := Heap.get?_update_self (Obj.mapSeq (·.push Value.none)) hS₂ rfl
  refine wpAny_updateSeq (hz := by seq_fits) hS₃ rfl ?_
  have hS₄ := Heap.get?_update_self (Obj.mapSeq (·.pop)) hS₃ rfl
  have oth : ∀ b o, b ≠ S → (s.heap.update S (Obj.mapSeq (fun _ => (#[] : Array Value)))).get? b = some o →
      (((s.heap.update S (Obj.mapSeq (fun _ => (#[] : Array Value)))).update S (Obj.mapSeq (·.push Value.none))).update S (Obj.mapSeq (·.pop))).get? b = some o :=
    fun b o hb e => (Heap.get?_update_other _ _ (Ne.symm hb)).trans ((Heap.get?_update_other _ _ (Ne.symm hb)).trans e)
  have C2 : ZC x y t u z TI TO i1 i2 0 (((s.heap.update S (Obj.mapSeq (fun _ => (#[] : Array Value)))).update S (Obj.mapSeq (·.push Value.none))).update S (Obj.mapSeq (·.pop))) := C1.frame hS oth fun T o e => by
    by_cases hTS : T = S
    · subst hTS; exact ⟨_, hS₄⟩
    · exact ⟨o, oth _ _ hTS e⟩
  refine wpAny_pure ⟨plainId_quiet F.plain_extend_loop _, zl_loop hh D hM h0' hS _ rfl hz .none _ [] _ rfl (Nat.zero_le _) ?_ ⟨⟨_, hS₄⟩, fun b o e => ?_, (fun p hp => by simp at hp), List.nodup_nil, fun j p e => by simp at e⟩ C2 fun h' tk l' a b => hR h' tk l' a b⟩
  · show M ≤ (((s.heap.update S _).update S _).update S _).objs.size
    rw [(Heap.SameBut.update _ S _).1, (Heap.SameBut.update _ S _).1, (Heap.SameBut.update _ S _).1]
    exact hb
  · have ne : b ≠ S := Nat.ne_of_lt (Nat.lt_of_lt_of_le (Heap.lt_size e) h0'.1)
    exact oth _ _ ne (oth1 _ _ ne (old b o e))
theorem call_list_zip {Q : Value → Shared → Prop} {E : Value → Shared → Prop} {s : Shared} (hh : A.handled = none) (D : ZipSep2 z TI TO i1 i2 [i1] [i2]) (h0' : h0.objs.size ≤ z ∧ h0.objs.size ≤ TO ∧ h0.objs.size ≤ i1 ∧ h0.objs.size ≤ i2)
    (hz : min x.cps.size y.cps.size ≤ sizeLine) (old : ∀ b o, h0.get? b = some o → s.heap.get? b = some o) (st : zsSt x y t u z TI TO i1 i2 0 s.heap)
    (hQ : ∀ h' tk l', l'.length = min x.cps.size y.cps.size → ZB x y s.heap.objs.size (s.heap.objs.size + 1) h0 l' h' → Q (.ref s.heap.objs.size) { s with heap := h', toks := tk }) :
    wpAny (model prog w) A (call (.type "list") [.ref z]) Q E s := by
  refine callType_codes (Q₁ := fun obj s₁ => obj = .ref s.heap.objs.size ∧ s₁ = { s with heap := s.heap.push { cls := .type "list", data := .seq #[] } }) F.called_list (F.typeCall_list_1 _) F.entry_list_init
    (code_list_new _ ⟨rfl, rfl⟩) fun obj s₁ h₁ => ?_
  obtain ⟨rfl, rfl⟩ := h₁
  have hS : (s.heap.push { cls := .type "list", data := .seq #[] }).get? s.heap.objs.size = some { cls := .type "list", data := .seq #[] } := Heap.get?_push_size _ rfl
  obtain ⟨q1, q2, ⟨a, b, q3⟩, ⟨o4, e4, r4⟩, ⟨o5, e5, r5⟩, _, _⟩ := st
  have l1 : z < s.heap.objs.size := Heap.lt_size q1
  have l2 : TI < s.heap.objs.size := Heap.lt_size q2
  have l3 : TO < s.heap.objs.size := Heap.lt_size q3
  have l4 : i1 < s.heap.objs.size := Heap.lt_size e4
  have l5 : i2 < s.heap.objs.size := Heap.lt_size e5
  refine ⟨⟨_, hS, rfl⟩, F.args_list_init_2 _ _, zip_init (A := A.in1) (S := s.heap.objs.size) (M := s.heap.objs.size + 1) (h0 := h0) hh D ⟨Nat.lt_succ_self _, Nat.lt_succ_of_lt l1, Nat.lt_succ_of_lt l3, Nat.lt_succ_of_lt l4, Nat.lt_succ_of_lt l5⟩
    ⟨Nat.le_trans h0'.1 (Nat.le_of_lt l1), h0'⟩ ⟨Nat.ne_of_gt l1, Nat.ne_of_gt l2, Nat.ne_of_gt l3, Nat.ne_of_gt l4, Nat.ne_of_gt l5⟩ hz ?_ (fun b o e => Heap.get?_push_of_some _ (old b o e))
    ⟨.inl ⟨Heap.get?_push_of_some _ q1, a, b, Heap.get?_push_of_some _ q3⟩, Heap.get?_push_of_some _ q2, ⟨o4, Heap.get?_push_of_some _ e4, r4⟩, ⟨o5, Heap.get?_push_of_some _ e5, r5⟩⟩ (Heap.get?_push_of_some _ q1) hS fun h' tk l' c d => ⟨rfl, hQ h' tk l' c d⟩⟩
  show s.heap.objs.size + 1 ≤ (s.heap.push _).objs.size
  rw [Heap.size_push]; exact Nat.le_refl _
end

def vOf : Value → V
  | .str x _ => .str x
  | _ => .non
def zipV (x y : Str) : List (List V) := List.zipWith (fun c d => [V.str ⟨#[c]⟩, V.str ⟨#[d]⟩]) x.cps.toList y.cps.toList
def tListZip (ta : TA) : TE := fun σ H Q => ta σ H fun vs H1 => ∃ x y : Str, vs = [.str x, .str y] ∧ min x.cps.size y.cps.size ≤ sizeLine ∧
  ∀ (l : List (Addr × List V)) (S : Addr), (l.map (·.1)).Nodup → (∀ p ∈ l, H1 p.1 = none ∧ p.1 ≠ S) → H1 S = none → l.map (·.2) = zipV x y → Q (.ref S) (upd (updT H1 l) S (.lst (l.map fun p => .ref p.1)))
theorem vals_refs : ∀ as : List Addr, Vals (as.map V.ref) (as.map Value.ref)
  | [] => .nil
  | a :: r => .cons rfl (vals_refs r)
theorem pe_listZip {X : Cx} {e e2 : Expr} {ta : TA} {p q pos pos2 : Pos} (hc : X.calm = true) (hg : Gl X "list") (hm : X.mg "list" = none) (hg2 : Gl X "zip") (hm2 : X.mg "zip" = none) (ha : PA X [e, e2] ta)
    (hs : starEach [e, e2] X.env = (false, eval e X.env) :: starEach [e2] X.env := by rfl) (hpl : (backTo pos2 (starEach [e2] X.env)).any (·.1) = false := by rfl) :
    PE X (.Call (.Name "list" p) [.Call (.Name "zip" q) [e, e2] [] pos2] [] pos) (tListZip ta) := by
  refine ⟨fun pins s σ H Q I h => ?_⟩
  refine wpAny_Call_Name_kw (ld_blt I hg hm PyProof.Rows.boot_list (PyProof.Rows.callWith_type1 (e := .Call (.Name "zip" q) [e, e2] [] pos2) (rest := []) ?_ rfl rfl))
  refine Calls.spliced_cons ?_
  refine wpAny_Call_Name_kw (ld_blt I hg2 hm2 PyProof.Rows.boot_zip (PyProof.Rows.callWith_type1 (thn (ha.run pos2 pins s σ H _ I h) fun us s1 ⟨vs, H1, I1, r1, q1⟩ => ?_) hs hpl))
  obtain ⟨x, y, rfl, hz, q⟩ := q1
  obtain ⟨t, u, rfl⟩ := vals_texts r1
  refine zip_texts fun h' st hsz hk => Calls.spliced_nil ?_
  have hd := I1.ok.hd hc
  refine call_list_zip (s := { s1 with heap := h' }) (h0 := s1.heap) hd (sep_new s1.heap.objs.size) ⟨Nat.le_add_right _ _, Nat.le_add_right _ _, Nat.le_refl _, Nat.le_add_right _ _⟩ hz hk st fun h2 tk l' hl B => ?_
  have I2 : Inv X pins σ H1 { s1 with heap := h2, toks := tk } := I1.kept (t' := tk) B.old
  have hbig : s1.heap.objs.size ≤ h'.objs.size := by rw [hsz]; exact Nat.le_add_right _ _
  have fp : ∀ a, h'.objs.size ≤ a → FpOk X pins H1 a := fun a ha => I1.fpOk (Nat.le_trans hbig ha) (I1.hok.fresh (Nat.le_trans hbig ha))
  have lt : ∀ (j : Nat) (p : Addr × Value × Value), l'[j]? = some p → ∃ c d a b, x.cps[j]? = some c ∧ y.cps[j]? = some d ∧ p.2 = (Value.str ⟨#[c]⟩ a, Value.str ⟨#[d]⟩ b) := fun j p e => by
    obtain ⟨c, d, a, b, h1, h2, h3, h4⟩ := B.ch j p e
    exact ⟨c, d, a, b, h1, h2, by rw [← h3, ← h4]⟩
  let g : Addr × Value × Value → Addr × List V := fun p => (p.1, [vOf p.2.1, vOf p.2.2])
  have e1 : (l'.map g).map (·.1) = l'.map (·.1) := by rw [List.map_map]; rfl
  have e2 : (l'.map g).map (·.2) = zipV x y := by
    apply List.ext_getElem?
    intro j
    rw [List.map_map, List.getElem?_map]
    unfold zipV
    rw [List.getElem?_zipWith]
    cases hj : l'[j]? with
    | none =>
      have hl1 := List.getElem?_eq_none_iff.mp hj
      rw [hl] at hl1
      have : x.cps.toList[j]? = none ∨ y.cps.toList[j]? = none := by
        by_cases hx : x.cps.size ≤ j
        · exact .inl (by simp; exact hx)
        · exact .inr (by simp; omega)
      rcases this with q | q
      · rw [q]; rfl
      · rw [q]; cases x.cps.toList[j]? <;> rfl
    | some p =>
      obtain ⟨c, d, a, b, h1, h2, h3⟩ := lt j p hj
      have h1' : x.cps.toList[j]? = some c := by simpa using h1
      have h2' : y.cps.toList[j]? = some d := by simpa using h2
      rw [h1', h2']
      show some [vOf p.2.1, vOf p.2.2] = _
      rw [h3]; rfl
  have I3 : Inv X pins σ (updT H1 (l'.map g)) { s1 with heap := h2, toks := tk } := adopts I2 (by rw [e1]; exact B.nd) fun p hp => by
    obtain ⟨q0, hq0, rfl⟩ := List.mem_map.mp hp
    obtain ⟨t1, t2⟩ := B.tup q0 hq0
    obtain ⟨j, hj⟩ := List.getElem?_of_mem hq0
    obtain ⟨c, d, a, b, h1, h2, h3⟩ := lt j q0 hj
    refine ⟨fp _ (Nat.le_trans (Nat.le_succ _) t1), by show 2 ≤ sizeLine; decide, [q0.2.1, q0.2.2], ?_, ⟨_, t2, rfl, 0, rfl⟩⟩
    show Vals [vOf q0.2.1, vOf q0.2.2] [q0.2.1, q0.2.2]
    rw [h3]
    exact .cons ⟨a, rfl⟩ (.cons ⟨b, rfl⟩ .nil)
  have hne : ∀ p ∈ l'.map g, h'.objs.size ≠ p.1 := fun p hp => by
    obtain ⟨q0, hq0, rfl⟩ := List.mem_map.mp hp
    exact Nat.ne_of_lt (Nat.lt_of_lt_of_le (Nat.lt_succ_self _) (B.tup q0 hq0).1)
  have fS : FpOk X pins (updT H1 (l'.map g)) h'.objs.size := by
    obtain ⟨f0, f⟩ := fp h'.objs.size (Nat.le_refl _)
    exact ⟨by rw [updT_ne hne]; exact f0, f⟩
  have e3 : (l'.map g).map (fun p => V.ref p.1) = (l'.map (·.1)).map V.ref := by rw [List.map_map, List.map_map]; rfl
  obtain ⟨c, hc⟩ := B.lst
  have new : ObjOk X.prog X.w (upd (updT H1 (l'.map g)) h'.objs.size (.lst ((l'.map g).map fun p => V.ref p.1))) h2 h'.objs.size (.lst ((l'.map g).map fun p => V.ref p.1)) := by
    refine ⟨by rw [List.length_map, List.length_map, hl]; exact hz, l'.map (fun p => Value.ref p.1), c, ?_, hc⟩
    rw [e3]
    have e4 : l'.map (fun p => Value.ref p.1) = (l'.map (·.1)).map Value.ref := by rw [List.map_map]; rfl
    rw [e4]
    exact vals_refs _
  refine ⟨.ref h'.objs.size, _, adopt I3 fS new, rfl, q (l'.map g) h'.objs.size (by rw [e1]; exact B.nd) (fun p hp => ⟨?_, fun z => hne p hp z.symm⟩) (I1.hok.fresh hbig) e2⟩
  obtain ⟨q0, hq0, rfl⟩ := List.mem_map.mp hp
  exact I1.hok.fresh (Nat.le_trans hbig (Nat.le_trans (Nat.le_succ _) (B.tup q0 hq0).1))

/-! ### a text's slice with a step -/
def stpS (x : Str) (lo st : Int) : Str := Txt.sliceBy x (some (lo, 0)) none (st, 0)
def tStp (lo st : Int) (te : TE) : TE := fun σ H Q => te σ H fun v H1 => ∃ x, v = .str x ∧ x.length ≤ sizeLine ∧ Q (.str (stpS x lo st)) H1
theorem pe_stp {X : Cx} {e : Expr} {te : TE} {lo st : Int} {a1 b1 : Nat} {a2 b2 p2 pos : Pos} (he : PE X e te) (h0 : st ≠ 0) :
    PE X (.Subscript e (.Slice (some (.Constant (.int lo) a1 a2)) none (some (.Constant (.int st) b1 b2)) p2) pos) (tStp lo st te) := by
  refine ⟨fun pins s σ H Q I h => ?_⟩
  refine Subscript_ (thn (he.run pins s σ H _ I h) fun v s1 ⟨x, H1, I1, r1, q1⟩ => ?_)
  obtain ⟨z, rfl, hz, q⟩ := q1
  obtain ⟨t, rfl⟩ := r1
  refine wpAny_Slice (thn ((po_some (pe_int (X := X) (i := lo) (j := a1) (pos := a2))).run pins s1 σ H1 (fun n H' => n = some lo ∧ H' = H1) I1 ⟨lo, rfl, rfl, rfl⟩) fun vl s2 ⟨l, H2, I2, pl, q2⟩ => ?_)
  obtain ⟨rfl, rfl⟩ := q2
  rw [evalPart_none]
  refine wpAny_pure ?_
  refine thn ((po_some (pe_int (X := X) (i := st) (j := b1) (pos := b2))).run pins s2 σ H2 (fun n H' => n = some st ∧ H' = H2) I2 ⟨st, rfl, rfl, rfl⟩) fun vs s3 ⟨l, H3, I3, ps, q3⟩ => ?_
  obtain ⟨rfl, rfl⟩ := q3
  cases pl with
  | int i tl =>
  cases ps with
  | int i ts =>
  have I4 : Inv X pins σ H3 { s3 with heap := s3.heap.push { cls := .type "slice", data := .fields #[.int lo tl, .none, .int st ts] } } := I3.kept (t' := s3.toks) fun b ob q => Heap.get?_push_of_some _ q
  refine tail_any (ops := [.str z t, .ref s3.heap.objs.size]) (T := "str") (typeIs_str _ _ _) F.slot_str_getitem.lookup ?_ (by with_unfolding_all rfl)
  refine wpAny_getItem_str_slice (l := some (lo, tl)) (u := none) (st := some (st, ts)) ⟨_, Heap.get?_push_size _ rfl, rfl, rfl⟩ (show (st == 0) = false from beq_eq_false_iff_ne.mpr h0) ?_
  have hl : (stpS z lo st).length ≤ sizeLine := Nat.le_trans (Txt.sliceBy_le _ _ _ _ h0) hz
  have e : stpS z lo st = if ((((some (st, ts)).map (·.1)).getD 1 == 1 && (slicePicked z (some (lo, tl)) none (some (st, ts))).length == z.length) = true) then z else ⟨((slicePicked z (some (lo, tl)) none (some (st, ts))).filterMap (z.cps[·]?)).toArray⟩ := rfl
  unfold sliceMade
  by_cases c : (((some (st, ts)).map (·.1)).getD 1 == 1 && (slicePicked z (some (lo, tl)) none (some (st, ts))).length == z.length) = true
  · rw [if_pos c] at e ⊢
    rw [e] at q
    exact ⟨.str z, H3, I4, ⟨t, rfl⟩, q⟩
  · rw [if_neg c] at e ⊢
    rw [e] at q hl
    exact ⟨hl, .str _, H3, I4.tok _, ⟨_, rfl⟩, q⟩

/-! ### text * number -/
def mulS (z : Str) (n : Int) : Str := if n < 1 then Str.empty else if (n == 1 || z.length == 0) = true then z else ⟨(List.replicate n.toNat z.cps).foldl (· ++ ·) #[]⟩
theorem op_mulS {X : Cx} : OpR X (binaryOp .Mult) (fun x y H Q => ∃ (z : Str) (n : Int), x = .str z ∧ y = .int n ∧ -(2 ^ 63) ≤ n ∧ n < 2 ^ 63 ∧ z.length * n.toNat ≤ 10000000 ∧ (mulS z n).length ≤ 10000000 ∧ Q (.str (mulS z n)) H) := by
  intro pins s σ H x y v u Q I rx ry h
  obtain ⟨z, n, rfl, rfl, h1, h2, h3, h4, q⟩ := h
  obtain ⟨t, rfl⟩ := rx
  obtain ⟨t', rfl⟩ := ry
  have h5 : (mulS z n).length ≤ sizeLine := Nat.le_trans h4 (by decide)
  refine P.mul_str ?_ (fun g1 g2 => ?_) (fun g1 g2 => ?_) ?_
  · have a : ¬ n < -(2 ^ 63 : Int) := by omega
    have b : ¬ n ≥ 2 ^ 63 := by omega
    rw [decide_eq_false a, decide_eq_false b]; rfl
  · have g3 : z.length ≠ 0 := fun c => by
      rw [c, show ((0 : Nat) == 0) = true from rfl, Bool.or_true] at g2
      cases g2
    have e : (n.toNat : Int) = n := Int.toNat_of_nonneg (by omega)
    have h6 : (z.length : Int) * n ≤ 10000000 := by
      have h7 : ((z.length * n.toNat : Nat) : Int) ≤ ((10000000 : Nat) : Int) := Int.ofNat_le.mpr h3
      rw [Int.natCast_mul, e] at h7
      exact h7
    intro c
    have c' : (2 ^ 63 - 1) / n < (z.length : Int) := c
    have c2 := (Int.ediv_lt_iff_lt_mul (by omega : 0 < n)).mp c'
    have : (2 : Int) ^ 63 - 1 < 10000000 := Int.lt_of_lt_of_le c2 h6
    omega
  · unfold Builtin.Str.tooLong
    have : z.length * n.toNat ≤ sizeLine := Nat.le_trans h3 (by decide)
    exact decide_eq_false (Nat.not_lt.mpr this)
  · unfold mulS at q h5
    by_cases c1 : n < 1
    · rw [if_pos c1] at q h5 ⊢
      exact ⟨h5, .str _, H, I.tok _, ⟨_, rfl⟩, q⟩
    · rw [if_neg c1] at q h5 ⊢
      by_cases c2 : (n == 1 || z.length == 0) = true
      · rw [if_pos c2] at q ⊢
        exact ⟨.str z, H, I, ⟨t, rfl⟩, q⟩
      · rw [if_neg c2] at q h5 ⊢
        exact ⟨h5, .str _, H, I.tok _, ⟨_, rfl⟩, q⟩

/-! ### sum of a tuple -/
theorem cr_sumT {X : Cx} (hc : X.calm = true) : CallR X (.builtin "sum") (fun vs H Q => ∃ (a : Addr) (ns : List Int), vs = [V.ref a] ∧ SqT X.K H a (ns.map V.int) ∧ Q (.int ns.sum) H) := by
  intro pins s σ H vs us Q I r h
  obtain ⟨a, ns, rfl, hs, q⟩ := h
  obtain ⟨its, rv, hl, _⟩ := I.tuple hs
  rw [Vals.ref1 r]
  have hi := Vals.ints rv
  obtain ⟨xs, e⟩ := hi.allInts.items
  have hn : numsOf (intItems xs).toList = ns := by rw [← e]; exact hi.numsOf
  rw [nums_intItems] at hn
  have hl' : s.heap.IsTuple a its.toArray := hl
  rw [e] at hl'
  refine PySem.W.ktm_sumG (I.ok.hd hc) hl' fun h' tk t' hk => ?_
  rw [preSum_eq, List.take_of_length_le (by simp), hn]
  exact ⟨.int _, H, I.kept hk, ⟨_, rfl⟩, q⟩

/-! ### a dict that is written with texts, read at once -/
def dkv (ps : List (Str × Str)) : List (Key × V) := ps.map fun p => (.inr p.1, .str p.2)
def chkPairs : List (Str × Str) → List (Option Expr) → List Expr → Bool
  | [], ks, vs => (match ks, vs with | [], [] => true | _, _ => false)
  | (a, b) :: ps, ks, vs => (match ks, vs with
    | some (.Constant (.str x) _ _) :: ks, .Constant (.str y) _ _ :: vs => x == a && y == b && chkPairs ps ks vs
    | _, _ => false)
theorem pairs_ok {X : Cx} {pos : Pos} : ∀ (ps : List (Str × Str)) (ks : List (Option Expr)) (vs : List Expr), chkPairs ps ks vs = true →
    ks.length = ps.length ∧ vs.length = ps.length ∧ ks.all (·.isSome) = true ∧ PPs X pos ks vs (ps.map fun p => (tC (.str p.1), tC (.str p.2)))
  | [], ks, vs, h => by
    match ks, vs, h with
    | [], [], h => exact ⟨rfl, rfl, rfl, pps_nil⟩
    | [], _ :: _, h => simp [chkPairs] at h
    | _ :: _, _, h => simp [chkPairs] at h
  | (a, b) :: ps, ks, vs, h => by
    unfold chkPairs at h
    split at h
    · simp only [Bool.and_eq_true] at h
      obtain ⟨⟨h1, h2⟩, h3⟩ := h
      have e1 := eq_of_beq h1
      have e2 := eq_of_beq h2
      subst e1 e2
      obtain ⟨q1, q2, q3, q4⟩ := pairs_ok (X := X) (pos := pos) ps _ _ h3
      exact ⟨by simp [q1], by simp [q2], by simpa using q3, pps_cons pe_str pe_str q4⟩
    · cases h
theorem pairs_run {σ : L2.St} {H : Hp} : ∀ (ps : List (Str × Str)) {Q : List (V × V) → Hp → Prop}, Q (ps.map fun p => (V.str p.1, V.str p.2)) H → tPairs (ps.map fun p => (tC (.str p.1), tC (.str p.2))) σ H Q
  | [], _, q => q
  | p :: ps, _, q => pairs_run ps q
theorem upd_upd {H : Hp} {p : Addr} {a b : HO} : upd (upd H p a) p b = upd H p b := by
  funext c
  by_cases h : c = p
  · subst h; rw [upd_same, upd_same]
  · rw [upd_ne h, upd_ne h, upd_ne h]
def tDsub (ps : List (Str × Str)) (te : TE) : TE := fun σ H Q => ∀ p, H p = none → te σ (upd H p (.dK (mergeK [] (dkv ps)))) fun y H2 => ∃ a v, V.ref p = .ref a ∧ DGet H2 a y (some v) ∧ Q v H2
theorem pe_dsub {X : Cx} {ps : List (Str × Str)} {ks : List (Option Expr)} {vs : List Expr} {e : Expr} {te : TE} {p1 pos : Pos} (hu : X.A.units + 1 < cLine) (h : chkPairs ps ks vs = true) (h0 : ps ≠ []) (h15 : ps.length ≤ 15) (he : PE X e te) (hs : NoSl e) :
    PE X (.Subscript (.Dict ks vs p1) e pos) (tDsub ps te) := by
  obtain ⟨q1, q2, q3, q4⟩ := pairs_ok (X := X) (pos := p1) ps ks vs h
  have hk : ks ≠ [] := fun c => h0 (List.eq_nil_of_length_eq_zero (by rw [← q1, c]; rfl))
  refine ⟨fun pins s σ H Q I q => (pe_dget hu (pe_disp q4 q3 (q1.trans q2.symm) hk (q1 ▸ h15)) he hs).run pins s σ H Q I ?_⟩
  intro p hp
  refine pairs_run ps ⟨upd_same, dkv ps, ?_, by unfold dkv; rw [List.length_map]; exact h15, ?_⟩
  · unfold dkv; rw [List.map_map]; rfl
  · rw [upd_upd]
    exact q p hp
end Mc
set_option Elab.async false
set_option linter.all false
set_option maxRecDepth 100000
/-! The machine: a small evaluator for the Python that the laws and the program use. Values are data (D), lists that change are cells. -/
namespace Mc
open PySem PySem.Spec PyProof.Rows L2

/-! ### data -/
inductive D where
  | non | bl (b : Bool) | int (i : Int) | str (x : Str)
  | tup (xs : List D) | lst (xs : List D) | scr (xs : List D) | dct (ks : List Key) (vs : List D) | obj (c : Addr) (ns : List Str) (vs : List D) | ref (n : Nat) | ty (n : String)
inductive Cell where
  | lst (xs : List D) | dct (ks : List Key) (vs : List D) | ins (c : Addr) (ns : List Str) (vs : List D)
abbrev Cells := List Cell
abbrev Sl := List (Option D)

/-- a tuple: tracked, or one of the text's own -/
def TupAt (K : PySem.W.Frag) (H : Hp) (a : Addr) (xs : List V) : Prop :=
  H a = some (.tup xs) ∨ ∃ (o : Obj) (its : Array Value) (n : Nat), K.lookup a = some o ∧ o.cls = .type "tuple" ∧ o.data = .seq its n ∧ its.size ≤ sizeLine ∧ Vals xs its.toList
theorem TupAt.sq {K : PySem.W.Frag} {H H' : Hp} {a : Addr} {xs : List V} (e : Same H H') (h : TupAt K H a xs) : SqT K H' a xs := by
  rcases h with h | h
  · exact .inl (.inl (e _ _ h))
  · exact .inr h
theorem TupAt.mono {K : PySem.W.Frag} {H H' : Hp} {a : Addr} {xs : List V} (e : Same H H') (h : TupAt K H a xs) : TupAt K H' a xs := by
  rcases h with h | h
  · exact .inl (e _ _ h)
  · exact .inr h
/-- d is what v stands for: H what is frozen, ρ where the cells are -/
def Dn (K : PySem.W.Frag) (H : Hp) (ρ : List Addr) : D → V → Prop
  | .non, v => v = .non
  | .bl b, v => v = .bl b
  | .int i, v => v = .int i
  | .str x, v => v = .str x
  | .ty n, v => v = .ty n
  | .tup xs, v => ∃ a vs, v = .ref a ∧ TupAt K H a vs ∧ DnL K H ρ xs vs
  | .lst xs, v => ∃ a vs, v = .ref a ∧ H a = some (.lst vs) ∧ DnL K H ρ xs vs
  | .scr xs, v => ∃ a vs, v = .ref a ∧ SqL K H a vs ∧ DnL K H ρ xs vs
  | .dct ks ds, v => ∃ a vs, v = .ref a ∧ H a = some (.dK (ks.zip vs)) ∧ ks.length = ds.length ∧ DnL K H ρ ds vs
  | .obj c ns ds, v => ∃ a dx vs, v = .ref a ∧ H a = some (.ins c dx (ns.zip vs)) ∧ ns.length = ds.length ∧ DnL K H ρ ds vs
  | .ref n, v => ∃ a, v = .ref a ∧ ρ[n]? = some a
where
  DnL (K : PySem.W.Frag) (H : Hp) (ρ : List Addr) : List D → List V → Prop
    | [], vs => vs = []
    | d :: ds, vs => ∃ v r, vs = v :: r ∧ Dn K H ρ d v ∧ DnL K H ρ ds r
abbrev DnL := Dn.DnL

/-- more is frozen, there are more cells -/
structure Ext (H : Hp) (ρ : List Addr) (H' : Hp) (ρ' : List Addr) : Prop where
  sub : Same H H'
  pre : ∃ r, ρ' = ρ ++ r
theorem Ext.refl (H : Hp) (ρ : List Addr) : Ext H ρ H ρ := ⟨Same.refl H, [], by simp⟩
theorem Ext.trans {H H1 H2 : Hp} {ρ ρ1 ρ2 : List Addr} (a : Ext H ρ H1 ρ1) (b : Ext H1 ρ1 H2 ρ2) : Ext H ρ H2 ρ2 := by
  obtain ⟨r, e⟩ := a.pre
  obtain ⟨r', e'⟩ := b.pre
  exact ⟨a.sub.trans b.sub, r ++ r', by rw [e', e, List.append_assoc]⟩
theorem Ext.at {H H' : Hp} {ρ ρ' : List Addr} (e : Ext H ρ H' ρ') {n : Nat} {a : Addr} (h : ρ[n]? = some a) : ρ'[n]? = some a := by
  obtain ⟨r, rfl⟩ := e.pre
  rw [List.getElem?_append_left (List.getElem?_eq_some_iff.mp h).1]
  exact h
theorem same_sqT {K : PySem.W.Frag} {H H' : Hp} {a : Addr} {xs : List V} (e : Same H H') (h : SqT K H a xs) : SqT K H' a xs := by
  rcases h with (h | ⟨o, h⟩) | h
  · exact .inl (.inl (e _ _ h))
  · exact .inl (.inr ⟨o, e _ _ h⟩)
  · exact .inr h
mutual
theorem Dn.mono {K : PySem.W.Frag} {H H' : Hp} {ρ ρ' : List Addr} (e : Ext H ρ H' ρ') : ∀ (d : D) (v : V), Dn K H ρ d v → Dn K H' ρ' d v
  | .non, _, h => by unfold Dn at h ⊢; exact h
  | .bl b, _, h => by unfold Dn at h ⊢; exact h
  | .int i, _, h => by unfold Dn at h ⊢; exact h
  | .str x, _, h => by unfold Dn at h ⊢; exact h
  | .ty x, _, h => by unfold Dn at h ⊢; exact h
  | .tup xs, _, h => by
    unfold Dn at h ⊢
    obtain ⟨a, vs, e1, e2, e3⟩ := h
    exact ⟨a, vs, e1, e2.mono e.sub, DnL.mono e xs vs e3⟩
  | .lst xs, _, h => by
    unfold Dn at h ⊢
    obtain ⟨a, vs, e1, e2, e3⟩ := h
    exact ⟨a, vs, e1, e.sub _ _ e2, DnL.mono e xs vs e3⟩
  | .scr xs, _, h => by
    unfold Dn at h ⊢
    obtain ⟨a, vs, e1, e2, e3⟩ := h
    exact ⟨a, vs, e1, e.sub.seq e2, DnL.mono e xs vs e3⟩
  | .dct ks xs, _, h => by
    unfold Dn at h ⊢
    obtain ⟨a, vs, e1, e2, e3, e4⟩ := h
    exact ⟨a, vs, e1, e.sub _ _ e2, e3, DnL.mono e xs vs e4⟩
  | .obj c ns xs, _, h => by
    unfold Dn at h ⊢
    obtain ⟨a, dx, vs, e1, e2, e3, e4⟩ := h
    exact ⟨a, dx, vs, e1, e.sub _ _ e2, e3, DnL.mono e xs vs e4⟩
  | .ref n, _, h => by
    unfold Dn at h ⊢
    obtain ⟨a, e1, e2⟩ := h
    exact ⟨a, e1, e.at e2⟩
theorem DnL.mono {K : PySem.W.Frag} {H H' : Hp} {ρ ρ' : List Addr} (e : Ext H ρ H' ρ') : ∀ (ds : List D) (vs : List V), DnL K H ρ ds vs → DnL K H' ρ' ds vs
  | [], _, h => by unfold DnL Dn.DnL at h ⊢; exact h
  | d :: ds, _, h => by
    unfold DnL Dn.DnL at h ⊢
    obtain ⟨v, r, e1, e2, e3⟩ := h
    exact ⟨v, r, e1, Dn.mono e d v e2, DnL.mono e ds r e3⟩
end
section
variable {K : PySem.W.Frag} {H : Hp} {ρ : List Addr}
theorem DnL.nil : DnL K H ρ [] [] := by unfold DnL Dn.DnL; rfl
theorem DnL.cons {d : D} {v : V} {ds : List D} {vs : List V} (h : Dn K H ρ d v) (t : DnL K H ρ ds vs) : DnL K H ρ (d :: ds) (v :: vs) := by unfold DnL Dn.DnL; exact ⟨v, vs, rfl, h, t⟩
theorem DnL.of_nil {vs : List V} (h : DnL K H ρ [] vs) : vs = [] := by unfold DnL Dn.DnL at h; exact h
theorem DnL.of_cons {d : D} {ds : List D} {vs : List V} (h : DnL K H ρ (d :: ds) vs) : ∃ v r, vs = v :: r ∧ Dn K H ρ d v ∧ DnL K H ρ ds r := by unfold DnL Dn.DnL at h; exact h
theorem DnL.length : ∀ {ds : List D} {vs : List V}, DnL K H ρ ds vs → vs.length = ds.length
  | [], _, h => by rw [h.of_nil]; rfl
  | d :: ds, _, h => by
    obtain ⟨v, r, rfl, _, h2⟩ := h.of_cons
    rw [List.length_cons, List.length_cons, DnL.length h2]
theorem DnL.get : ∀ {ds : List D} {vs : List V} {i : Nat} {d : D}, DnL K H ρ ds vs → ds[i]? = some d → ∃ v, vs[i]? = some v ∧ Dn K H ρ d v
  | [], _, _, _, _, e => by simp at e
  | d :: ds, _, 0, _, h, e => by
    obtain ⟨v, r, rfl, h1, _⟩ := h.of_cons
    simp at e; subst e
    exact ⟨v, by simp, h1⟩
  | d :: ds, _, i + 1, _, h, e => by
    obtain ⟨v, r, rfl, _, h2⟩ := h.of_cons
    obtain ⟨u, e1, e2⟩ := DnL.get h2 (i := i) (by simpa using e)
    exact ⟨u, by simpa using e1, e2⟩
theorem DnL.app : ∀ {ds es : List D} {vs us : List V}, DnL K H ρ ds vs → DnL K H ρ es us → DnL K H ρ (ds ++ es) (vs ++ us)
  | [], _, _, _, h, t => by rw [h.of_nil]; exact t
  | d :: ds, _, _, _, h, t => by
    obtain ⟨v, r, rfl, h1, h2⟩ := h.of_cons
    exact DnL.cons h1 (DnL.app h2 t)
theorem DnL.take : ∀ {ds : List D} {vs : List V} (n : Nat), DnL K H ρ ds vs → DnL K H ρ (ds.take n) (vs.take n)
  | _, _, 0, _ => by simp; exact DnL.nil
  | [], _, n + 1, h => by rw [h.of_nil]; simp; exact DnL.nil
  | d :: ds, _, n + 1, h => by
    obtain ⟨v, r, rfl, h1, h2⟩ := h.of_cons
    simp only [List.take_succ_cons]
    exact DnL.cons h1 (DnL.take n h2)
theorem DnL.drop : ∀ {ds : List D} {vs : List V} (n : Nat), DnL K H ρ ds vs → DnL K H ρ (ds.drop n) (vs.drop n)
  | _, _, 0, h => by simpa using h
  | [], _, n + 1, h => by rw [h.of_nil]; simp; exact DnL.nil
  | d :: ds, _, n + 1, h => by
    obtain ⟨v, r, rfl, h1, h2⟩ := h.of_cons
    simp only [List.drop_succ_cons]
    exact DnL.drop n h2
theorem DnL.set : ∀ {ds : List D} {vs : List V} (i : Nat) {d : D} {v : V}, DnL K H ρ ds vs → Dn K H ρ d v → DnL K H ρ (ds.set i d) (vs.set i v)
  | [], _, _, _, _, h, _ => by rw [h.of_nil]; simp; exact DnL.nil
  | d :: ds, _, 0, _, _, h, t => by
    obtain ⟨v, r, rfl, h1, h2⟩ := h.of_cons
    exact DnL.cons t h2
  | d :: ds, _, i + 1, _, _, h, t => by
    obtain ⟨v, r, rfl, h1, h2⟩ := h.of_cons
    exact DnL.cons h1 (DnL.set i h2 t)
theorem DnL.rep : ∀ {ds : List D} {vs : List V} (n : Nat), DnL K H ρ ds vs → DnL K H ρ (List.replicate n ds).flatten (List.replicate n vs).flatten
  | _, _, 0, _ => by simp; exact DnL.nil
  | _, _, n + 1, h => by
    rw [List.replicate_succ, List.replicate_succ, List.flatten_cons, List.flatten_cons]
    exact DnL.app h (DnL.rep n h)
theorem DnL.eraseIdx : ∀ {ds : List D} {vs : List V} (i : Nat), DnL K H ρ ds vs → DnL K H ρ (ds.eraseIdx i) (vs.eraseIdx i)
  | [], _, _, h => by rw [h.of_nil]; simp; exact DnL.nil
  | d :: ds, _, 0, h => by
    obtain ⟨v, r, rfl, h1, h2⟩ := h.of_cons
    exact h2
  | d :: ds, _, i + 1, h => by
    obtain ⟨v, r, rfl, h1, h2⟩ := h.of_cons
    exact DnL.cons h1 (DnL.eraseIdx i h2)
theorem DnL.strs : ∀ {ws : List Str} {vs : List V}, DnL K H ρ (ws.map D.str) vs → vs = ws.map V.str
  | [], _, h => h.of_nil
  | w :: ws, _, h => by
    obtain ⟨v, r, rfl, h1, h2⟩ := h.of_cons
    unfold Dn at h1
    rw [h1, DnL.strs h2, List.map_cons]
theorem DnL.ints : ∀ {ws : List Int} {vs : List V}, DnL K H ρ (ws.map D.int) vs → vs = ws.map V.int
  | [], _, h => h.of_nil
  | w :: ws, _, h => by
    obtain ⟨v, r, rfl, h1, h2⟩ := h.of_cons
    unfold Dn at h1
    rw [h1, DnL.ints h2, List.map_cons]
theorem DnL.bls : ∀ {ws : List Bool} {vs : List V}, DnL K H ρ (ws.map D.bl) vs → vs = ws.map V.bl
  | [], _, h => h.of_nil
  | w :: ws, _, h => by
    obtain ⟨v, r, rfl, h1, h2⟩ := h.of_cons
    unfold Dn at h1
    rw [h1, DnL.bls h2, List.map_cons]
end

/-! ### the simulation -/
def CellOk (K : PySem.W.Frag) (Hd : Hp) (ρ : List Addr) (H : Hp) (a : Addr) : Cell → Prop
  | .lst xs => ∃ vs, H a = some (.lst vs) ∧ DnL K Hd ρ xs vs
  | .dct ks ds => ∃ vs, H a = some (.dK (ks.zip vs)) ∧ ks.length = ds.length ∧ DnL K Hd ρ ds vs
  | .ins c ns ds => ∃ dx vs, H a = some (.ins c dx (ns.zip vs)) ∧ ns.length = ds.length ∧ DnL K Hd ρ ds vs
structure Sim (K : PySem.W.Frag) (Hd : Hp) (ρ : List Addr) (cs : Cells) (H : Hp) : Prop where
  sub : Same Hd H
  len : ρ.length = cs.length
  nd : ρ.Nodup
  cell : ∀ (n : Nat) (a : Addr) (c : Cell), ρ[n]? = some a → cs[n]? = some c → Hd a = none ∧ CellOk K Hd ρ H a c
theorem CellOk.there {K : PySem.W.Frag} {Hd : Hp} {ρ : List Addr} {H : Hp} {a : Addr} {c : Cell} (h : CellOk K Hd ρ H a c) : ∃ o, H a = some o := by
  cases c with
  | lst xs => obtain ⟨vs, e, _⟩ := h; exact ⟨_, e⟩
  | dct ks xs => obtain ⟨vs, e, _⟩ := h; exact ⟨_, e⟩
  | ins c ns xs => obtain ⟨dx, vs, e, _⟩ := h; exact ⟨_, e⟩
theorem CellOk.mono {K : PySem.W.Frag} {Hd Hd' : Hp} {ρ ρ' : List Addr} {H H' : Hp} {a : Addr} {c : Cell} (h : CellOk K Hd ρ H a c) (e : Ext Hd ρ Hd' ρ') (ha : H' a = H a) : CellOk K Hd' ρ' H' a c := by
  cases c with
  | lst xs => obtain ⟨vs, e1, e2⟩ := h; exact ⟨vs, ha.trans e1, DnL.mono e _ _ e2⟩
  | dct ks xs => obtain ⟨vs, e1, e0, e2⟩ := h; exact ⟨vs, ha.trans e1, e0, DnL.mono e _ _ e2⟩
  | ins c ns xs => obtain ⟨dx, vs, e1, e0, e2⟩ := h; exact ⟨dx, vs, ha.trans e1, e0, DnL.mono e _ _ e2⟩
section
variable {K : PySem.W.Frag} {Hd H : Hp} {ρ : List Addr} {cs : Cells} {p : Addr} {o : HO}
theorem Sim.at_cell (S : Sim K Hd ρ cs H) {n : Nat} {a : Addr} (h : ρ[n]? = some a) : ∃ c, cs[n]? = some c ∧ Hd a = none ∧ CellOk K Hd ρ H a c := by
  have h1 : n < cs.length := by rw [← S.len]; exact (List.getElem?_eq_some_iff.mp h).1
  exact ⟨cs[n], List.getElem?_eq_getElem h1, S.cell n a _ h (List.getElem?_eq_getElem h1)⟩
theorem Sim.ne_new (S : Sim K Hd ρ cs H) (hp : H p = none) {n : Nat} {a : Addr} (h : ρ[n]? = some a) : a ≠ p := by
  obtain ⟨c, _, _, hc⟩ := S.at_cell h
  obtain ⟨o, ho⟩ := hc.there
  exact ne_of_none ho hp
theorem ext_upd {Hd : Hp} {ρ : List Addr} {p : Addr} {o : HO} (h : Hd p = none) : Ext Hd ρ (upd Hd p o) ρ := ⟨fun b x e => by rw [upd_ne (ne_of_none e h)]; exact e, [], by simp⟩
theorem Sim.free (S : Sim K Hd ρ cs H) (hp : H p = none) : Hd p = none := S.sub.free hp
/-- a new frozen thing -/
theorem Sim.frozen (S : Sim K Hd ρ cs H) (hp : H p = none) : Sim K (upd Hd p o) ρ cs (upd H p o) := by
  refine ⟨fun b x e => ?_, S.len, S.nd, fun n a c e1 e2 => ?_⟩
  · by_cases hb : b = p
    · subst hb; rw [upd_same] at e ⊢; exact e
    · rw [upd_ne hb] at e ⊢; exact S.sub _ _ e
  · obtain ⟨h1, h2⟩ := S.cell n a c e1 e2
    have ne := S.ne_new hp e1
    exact ⟨by rw [upd_ne ne]; exact h1, h2.mono (ext_upd (S.free hp)) (upd_ne ne)⟩
/-- a new thing that nobody tells of -/
theorem Sim.other (S : Sim K Hd ρ cs H) (hp : H p = none) : Sim K Hd ρ cs (upd H p o) := by
  refine ⟨fun b x e => ?_, S.len, S.nd, fun n a c e1 e2 => ?_⟩
  · rw [upd_ne (ne_of_none (S.sub _ _ e) hp)]; exact S.sub _ _ e
  · obtain ⟨h1, h2⟩ := S.cell n a c e1 e2
    exact ⟨h1, h2.mono (Ext.refl _ _) (upd_ne (S.ne_new hp e1))⟩
/-- .. changed again -/
theorem Sim.chg {H1 : Hp} (S : Sim K Hd ρ cs H1) (hd : Hd p = none) (hr : p ∉ ρ) : Sim K Hd ρ cs (upd H1 p o) := by
  refine ⟨fun b x e => ?_, S.len, S.nd, fun n a c e1 e2 => ?_⟩
  · rw [upd_ne (ne_of_none e hd)]; exact S.sub _ _ e
  · obtain ⟨h1, h2⟩ := S.cell n a c e1 e2
    have ne : a ≠ p := fun z => hr (z ▸ List.mem_of_getElem? e1)
    exact ⟨h1, h2.mono (Ext.refl _ _) (upd_ne ne)⟩
theorem Sim.not_mem (S : Sim K Hd ρ cs H) (hp : H p = none) : p ∉ ρ := fun h => by
  obtain ⟨n, hn⟩ := List.getElem?_of_mem h
  exact S.ne_new hp hn rfl
/-- what stands at p, unknown as yet, is frozen from now on -/
theorem Sim.freeze (S : Sim K Hd ρ cs H) (hd : Hd p = none) (hr : p ∉ ρ) (hH : H p = some o) : Sim K (upd Hd p o) ρ cs H := by
  refine ⟨fun b x e => ?_, S.len, S.nd, fun n a c e1 e2 => ?_⟩
  · by_cases hb : b = p
    · subst hb; rw [upd_same] at e; cases e; exact hH
    · rw [upd_ne hb] at e; exact S.sub _ _ e
  · obtain ⟨h1, h2⟩ := S.cell n a c e1 e2
    have ne : a ≠ p := fun z => hr (z ▸ List.mem_of_getElem? e1)
    exact ⟨by rw [upd_ne ne]; exact h1, h2.mono (ext_upd hd) rfl⟩
/-- .. becomes a cell -/
theorem Sim.push {c : Cell} (S : Sim K Hd ρ cs H) (hd : Hd p = none) (hr : p ∉ ρ) (hc : CellOk K Hd (ρ ++ [p]) H p c) : Sim K Hd (ρ ++ [p]) (cs ++ [c]) H := by
  have e0 : Ext Hd ρ Hd (ρ ++ [p]) := ⟨Same.refl _, [p], rfl⟩
  refine ⟨S.sub, by simp [S.len], ?_, fun n a c' e1 e2 => ?_⟩
  · rw [List.nodup_append]
    refine ⟨S.nd, by simp, fun x hx y hy => ?_⟩
    simp at hy; subst hy
    exact fun z => hr (z ▸ hx)
  · by_cases hn : n < ρ.length
    · rw [List.getElem?_append_left hn] at e1
      rw [List.getElem?_append_left (S.len ▸ hn)] at e2
      obtain ⟨h1, h2⟩ := S.cell n a c' e1 e2
      exact ⟨h1, h2.mono e0 rfl⟩
    · have l := (List.getElem?_eq_some_iff.mp e1).1
      have en : n = ρ.length := by simp at l; omega
      subst en
      rw [List.getElem?_append_right (Nat.le_refl _)] at e1
      rw [List.getElem?_append_right (by rw [S.len]; exact Nat.le_refl _)] at e2
      simp at e1
      rw [S.len] at e2
      simp at e2
      subst e1 e2
      exact ⟨hd, hc⟩
/-- a cell changes -/
theorem Sim.store {n : Nat} {a : Addr} {c : Cell} (S : Sim K Hd ρ cs H) (ha : ρ[n]? = some a) (hc : CellOk K Hd ρ (upd H a o) a c) : Sim K Hd ρ (cs.set n c) (upd H a o) := by
  obtain ⟨c0, e0, h0, _⟩ := S.at_cell ha
  refine ⟨fun b x e => ?_, by simp [S.len], S.nd, fun m b c' e1 e2 => ?_⟩
  · rw [upd_ne (ne_of_none e h0)]; exact S.sub _ _ e
  · by_cases hm : m = n
    · subst hm
      rw [ha] at e1; cases e1
      rw [List.getElem?_set_self (List.getElem?_eq_some_iff.mp e0).1] at e2; cases e2
      exact ⟨h0, hc⟩
    · rw [List.getElem?_set_ne (Ne.symm hm)] at e2
      obtain ⟨h1, h2⟩ := S.cell m b c' e1 e2
      have ne : b ≠ a := fun z => by
        subst z
        exact hm ((List.getElem?_inj (List.getElem?_eq_some_iff.mp e1).1 S.nd).mp (e1.trans ha.symm))
      exact ⟨h1, h2.mono (Ext.refl _ _) (upd_ne ne)⟩
theorem Sim.lst0 (S : Sim K Hd ρ cs H) : True := trivial
theorem Sim.seqL (S : Sim K Hd ρ cs H) {a : Addr} {xs : List V} (h : SqL K Hd a xs) : SqL K H a xs := S.sub.seq h
theorem Sim.seqT (S : Sim K Hd ρ cs H) {a : Addr} {xs : List V} (h : TupAt K Hd a xs) : SqT K H a xs := h.sq S.sub
end
/-- from here to there: what nobody tells of stays as it is -/
structure Step (Hd : Hp) (ρ : List Addr) (H : Hp) (Hd' : Hp) (ρ' : List Addr) (H' : Hp) : Prop where
  ext : Ext Hd ρ Hd' ρ'
  frame : ∀ a o, H a = some o → Hd a = none → a ∉ ρ → Hd' a = none ∧ a ∉ ρ' ∧ H' a = some o
theorem Step.refl (Hd : Hp) (ρ : List Addr) (H : Hp) : Step Hd ρ H Hd ρ H := ⟨Ext.refl _ _, fun _ _ h1 h2 h3 => ⟨h2, h3, h1⟩⟩
theorem Step.trans {Hd Hd1 Hd2 H H1 H2 : Hp} {ρ ρ1 ρ2 : List Addr} (a : Step Hd ρ H Hd1 ρ1 H1) (b : Step Hd1 ρ1 H1 Hd2 ρ2 H2) : Step Hd ρ H Hd2 ρ2 H2 :=
  ⟨a.ext.trans b.ext, fun x o h1 h2 h3 => let ⟨q1, q2, q3⟩ := a.frame x o h1 h2 h3; b.frame x o q3 q1 q2⟩
/-- what is new is new to the start, too -/
theorem Step.new {Hd Hd1 H H1 : Hp} {ρ ρ1 : List Addr} {cs : Cells} {K : PySem.W.Frag} {c1 : Cells} (s : Step Hd ρ H Hd1 ρ1 H1) (S : Sim K Hd ρ cs H) (S1 : Sim K Hd1 ρ1 c1 H1) {p : Addr} (h : H1 p = none) : H p = none := by
  cases e : H p with
  | none => rfl
  | some o =>
    cases e1 : Hd p with
    | some u =>
      have z := S1.sub _ _ (s.ext.sub _ _ e1)
      rw [h] at z; cases z
    | none =>
      by_cases hr : p ∈ ρ
      · obtain ⟨n, hn⟩ := List.getElem?_of_mem hr
        obtain ⟨c, _, _, hc⟩ := S1.at_cell (s.ext.at hn)
        obtain ⟨o', ho'⟩ := hc.there
        rw [h] at ho'; cases ho'
      · have z := (s.frame p o e e1 hr).2.2
        rw [h] at z; cases z
section
variable {K : PySem.W.Frag} {Hd H Hd1 H1 : Hp} {ρ ρ1 : List Addr} {cs c1 : Cells} {p : Addr} {o : HO}
theorem step_frozen (S : Sim K Hd ρ cs H) (hp : H p = none) : Step Hd ρ H (upd Hd p o) ρ (upd H p o) := ⟨ext_upd (S.free hp), fun a u h1 h2 h3 => by
  have ne := ne_of_none h1 hp
  exact ⟨by rw [upd_ne ne]; exact h2, h3, by rw [upd_ne ne]; exact h1⟩⟩
theorem step_store {n : Nat} {a : Addr} (ha : ρ[n]? = some a) : Step Hd ρ H Hd ρ (upd H a o) := ⟨Ext.refl _ _, fun b u h1 h2 h3 => by
  have ne : b ≠ a := fun z => h3 (z ▸ List.mem_of_getElem? ha)
  exact ⟨h2, h3, by rw [upd_ne ne]; exact h1⟩⟩
theorem step_other (hp : H p = none) : Step Hd ρ H Hd ρ (upd H p o) := ⟨Ext.refl _ _, fun a u h1 h2 h3 => ⟨h2, h3, by rw [upd_ne (ne_of_none h1 hp)]; exact h1⟩⟩
/-- a thing that was new at the start is frozen | becomes a cell -/
theorem Step.freeze (s : Step Hd ρ H Hd1 ρ1 H1) (hp : H p = none) (hd : Hd1 p = none) : Step Hd ρ H (upd Hd1 p o) ρ1 H1 := ⟨s.ext.trans (ext_upd hd), fun a u h1 h2 h3 => by
  obtain ⟨q1, q2, q3⟩ := s.frame a u h1 h2 h3
  exact ⟨by rw [upd_ne (ne_of_none h1 hp)]; exact q1, q2, q3⟩⟩
theorem Step.push (s : Step Hd ρ H Hd1 ρ1 H1) (hp : H p = none) : Step Hd ρ H Hd1 (ρ1 ++ [p]) H1 := ⟨s.ext.trans ⟨Same.refl _, [p], rfl⟩, fun a u h1 h2 h3 => by
  obtain ⟨q1, q2, q3⟩ := s.frame a u h1 h2 h3
  refine ⟨q1, fun z => ?_, q3⟩
  rcases List.mem_append.mp z with z | z
  · exact q2 z
  · simp at z
    exact ne_of_none h1 hp z⟩
/-- the cells behind are let go -/
theorem Sim.cut {m : Nat} (S : Sim K Hd ρ cs H) (h : m ≤ cs.length) : True := trivial
end
end Mc
set_option Elab.async false
set_option linter.all false
set_option maxRecDepth 100000
namespace Mc
open PySem PySem.Spec PyProof.Rows L2

/-! ### the words -/
inductive Bi where
  | len | abs | max2 | min2 | int | divmod | tuple | all | any | sum | repr | isi | str
  deriving DecidableEq
inductive Mt where
  | append | extend | pop | popAt | clear | reverse | join | startswith | strip | index | count
  deriving DecidableEq
/-- a default; how a call with keywords binds: def i, n by place, the keywords, the defaults, and where each parameter's value stands among these -/
inductive At where
  | non | bl (b : Bool) | int (i : Int) | str (x : Str)
  deriving DecidableEq
def At.d : At → D
  | .non => .non
  | .bl b => .bl b
  | .int i => .int i
  | .str x => .str x
def At.v : At → V
  | .non => .non
  | .bl b => .bl b
  | .int i => .int i
  | .str x => .str x
structure Kf where
  i : Nat
  n : Nat
  ks : List Str
  dfs : List At
  pm : List Nat
  deriving DecidableEq
mutual
inductive E where
  | var (i : Nat) | cst (d : D) | glo (x : Str) (d : D)
  | op (o : Operator) (a b : E) | cmp (o : CmpOp) (a b : E)
  | and (es : Es) | or (es : Es) | not (a : E) | neg (a : E) | ite (c a b : E)
  | tup (es : Es) | new (m : Bool) (l : L)
  | idx (a b : E) | slc (a : E) (lo hi : Eo)
  | call (f : Nat) (es : Es) | bi (b : Bi) (es : Es) | mt (m : Mt) (o : E) (es : Es)
  | chn (o1 o2 : CmpOp) (a b c : E)
  | fld (c : Addr) (f : Str) (e : E) | prp (c : Addr) (f : Str) (i : Nat) (e : E) | mth (c : Addr) (m : Str) (i : Nat) (o : E) (es : Es) | mk (c : Addr) (i : Nat) (m : Bool) (es : Es)
  | callK (kf : Kf) (es kw : Es) | mthK (c : Addr) (m : Str) (kf : Kf) (o : E) (es kw : Es) | mkK (c : Addr) (kf : Kf) (m : Bool) (es kw : Es)
  | lenO (c : Addr) (i : Nat) (e : E) | reprO (c : Addr) (i : Nat) (e : E) | eqO (c : Addr) (i : Nat) (a b : E)
  | gsub (x : Str) (ks : List Str) (ds : List D) (e : E) | gin (x : Str) (ks : List Str) (neg : Bool) (e : E) | dsub (ps : List (Str × Str)) (e : E) | stp (a : E) (lo st : Int)
inductive Es where
  | nil | cons (e : E) (es : Es)
inductive Eo where
  | no | so (e : E)
inductive L where
  | disp (es : Es) | comp (own : List (Str × Nat)) (t : Tgt) (it : I) (cond : Eo) (elt : E)
  | ofSeq (e : E) | cat (a b : E) | rep (a b : E) | slice (a : E) (lo hi : Eo) | sorted (e : E) | zipL (a b : E)
inductive I where
  | lst (e : E) | tup (e : E) | str (e : E) | rng1 (e : E) | rng2 (a b : E) | enum (e : E) | zip (a b : E) | zipT (a b : E) | zipS (e : E)
inductive Tgt where
  | nm (i : Nat) | tp (ts : Tgts) | sub (o i : E)
inductive Tgts where
  | nil | cons (t : Tgt) (ts : Tgts)
end
mutual
inductive S where
  | ex (e : E) | asg (t : Tgt) (e : E) | asgC (i : Nat) (m : Bool) (l : L) | par (is : List Nat) (es : Es) | aug (i : Nat) (o : Operator) (e : E)
  | ifs (c : E) (a b : Ss) | for (t : Tgt) (it : I) (b : Ss) | whl (c : E) (b : Ss)
  | ret (e : E) | retN | pass | brk | cont | never
  | fset (c : Addr) (o : E) (f : Str) (e : E)
inductive Ss where
  | nil | cons (s : S) (r : Ss)
end

/-! ### values -/
def cap : Nat := 10000000
mutual
def py0 : D → Option PyData
  | .non => some .none
  | .bl b => some (.bool b)
  | .int i => some (.int i)
  | .str x => some (.str x)
  | .tup xs => match py0L xs with | some ys => some (.tuple ys) | none => none
  | .lst xs => match py0L xs with | some ys => some (.list ys) | none => none
  | .scr xs => match py0L xs with | some ys => some (.list ys) | none => none
  | .dct _ _ => none
  | .obj _ _ _ => none
  | .ref _ => none
  | .ty _ => none
def py0L : List D → Option (List PyData)
  | [] => some []
  | d :: ds => match py0 d, py0L ds with | some x, some ys => some (x :: ys) | _, _ => none
end
/-- the data, a cell read where it stands on top -/
def py (cs : Cells) : D → Option PyData
  | .ref n => match cs[n]? with
    | some (.lst xs) => match py0L xs with | some ys => some (.list ys) | none => none
    | _ => none
  | d => py0 d
/-- what stands in a list or a tuple -/
def lstOf (cs : Cells) : D → Option (List D)
  | .lst xs => some xs
  | .ref n => match cs[n]? with | some (.lst xs) => some xs | _ => none
  | _ => none
/-- .. or the script -/
def seqOf (cs : Cells) : D → Option (List D)
  | .lst xs => some xs
  | .scr xs => some xs
  | .ref n => match cs[n]? with | some (.lst xs) => some xs | _ => none
  | _ => none
def eqP (cs : Cells) (a b : D) : Option Bool := match py cs a, py cs b with
  | some x, some y => if (SeqAt.shaped x && SeqAt.shaped y) = true then some (PyData.eqv x y) else none
  | _, _ => none
def eqB (cs : Cells) (a b : D) : Option Bool := match a, b with
  | .str x, .str y => some (x == y)
  | .int i, .int j => some (i == j)
  | a, b => eqP cs a b
def flatB : D → Bool
  | .non => true | .bl _ => true | .int _ => true | .str _ => true | _ => false
def eqF : D → D → Bool
  | .non, .non => true
  | .bl a, .bl b => a == b
  | .bl a, .int b => (if a then 1 else 0) == b
  | .int a, .bl b => a == (if b then 1 else 0)
  | .int a, .int b => a == b
  | .str a, .str b => a == b
  | _, _ => false
def inB (cs : Cells) (a b : D) : Option Bool := match b with
  | .tup xs => if (flatB a && xs.all flatB) = true then some (xs.any fun y => eqF y a) else none
  | b => match seqOf cs b with
    | some xs => if (flatB a && xs.all flatB) = true then some (xs.any fun y => eqF y a) else none
    | none => none
def opD : Operator → D → D → Option D
  | .Add, .int i, .int j => some (.int (i + j))
  | .Add, .str x, .str y => if x.length + y.length ≤ cap then some (.str (x ++ y)) else none
  | .Add, .tup xs, .tup ys => if xs.length + ys.length ≤ cap then some (.tup (xs ++ ys)) else none
  | .Sub, .int i, .int j => some (.int (i - j))
  | .Mult, .int i, .int j => if (-(2 ^ 64) < i ∧ i < 2 ^ 64) ∨ (-(2 ^ 64) < j ∧ j < 2 ^ 64) then some (.int (i * j)) else none
  | .Mult, .str z, .int n => if -(2 ^ 63) ≤ n ∧ n < 2 ^ 63 ∧ z.length * n.toNat ≤ cap ∧ (mulS z n).length ≤ cap then some (.str (mulS z n)) else none
  | .FloorDiv, .int i, .int j => if j ≠ 0 ∧ j.natAbs < 1073741824 then some (.int (i.fdiv j)) else none
  | .Mod, .int i, .int j => if j ≠ 0 then some (.int (i.fmod j)) else none
  | .Pow, .int i, .int j => if 0 ≤ j ∧ j ≤ 1000000 ∧ i.natAbs < 2 ^ 64 then some (.int (i ^ j.toNat)) else none
  | _, _, _ => none
/-- += of ints and of texts -/
def augD : D → D → Option D
  | .int i, .int j => some (.int (i + j))
  | .str x, .str y => if x.length + y.length ≤ cap then some (.str (x ++ y)) else none
  | _, _ => none
def cmpD (cs : Cells) : CmpOp → D → D → Option Bool
  | .Eq, a, b => eqB cs a b
  | .NotEq, a, b => match eqB cs a b with | some k => some (!k) | none => none
  | .Lt, .int i, .int j => some (decide (i < j))
  | .LtE, .int i, .int j => some (decide (i ≤ j))
  | .Gt, .int i, .int j => some (decide (j < i))
  | .GtE, .int i, .int j => some (decide (j ≤ i))
  | .Is, a, .non => some (match a with | .non => true | _ => false)
  | .IsNot, a, .non => some (match a with | .non => false | _ => true)
  | .In, a, b => inB cs a b
  | .NotIn, a, b => match inB cs a b with | some k => some (!k) | none => none
  | _, _, _ => none
def truD (cs : Cells) : D → Option Bool
  | .non => some false
  | .bl b => some b
  | .int i => some (i != 0)
  | .str x => if x.length ≤ cap then some ((x.length : Int) != 0) else none
  | .tup xs => some (!xs.isEmpty)
  | .lst xs => some (!xs.isEmpty)
  | .scr xs => some (!xs.isEmpty)
  | .ref n => match cs[n]? with | some (.lst xs) => some (!xs.isEmpty) | _ => none
  | _ => none
def strsOf : List D → Option (List Str)
  | [] => some []
  | .str x :: r => match strsOf r with | some ys => some (x :: ys) | none => none
  | _ => none
def intsOf : List D → Option (List Int)
  | [] => some []
  | .int x :: r => match intsOf r with | some ys => some (x :: ys) | none => none
  | _ => none
def blsOf : List D → Option (List Bool)
  | [] => some []
  | .bl x :: r => match blsOf r with | some ys => some (x :: ys) | none => none
  | _ => none
def tyName (cs : Cells) : D → Option String
  | .non => some "NoneType"
  | .bl _ => some "bool"
  | .int _ => some "int"
  | .str _ => some "str"
  | .tup _ => some "tuple"
  | .lst _ => some "list"
  | .dct _ _ => some "dict"
  | .ref n => match cs[n]? with | some (.lst _) => some "list" | some (.dct _ _) => some "dict" | _ => none
  | _ => none
def isiTab (a b : String) : Option Bool :=
  if ["NoneType", "bool", "int", "str", "tuple", "list", "dict"].contains a && ["bool", "int", "str", "tuple", "list", "dict"].contains b then some (a == b || (a == "bool" && b == "int")) else none
def isiAny (a : String) : List D → Option Bool
  | [] => some false
  | .ty b :: r => match isiTab a b, isiAny a r with
    | some x, some y => some (x || y)
    | _, _ => none
  | _ => none
def isiD (cs : Cells) (d t : D) : Option Bool := match tyName cs d with
  | some a => (match t with
    | .ty b => isiTab a b
    | .tup ts => isiAny a ts
    | _ => none)
  | none => none
def biD (cs : Cells) : Bi → List D → Option D
  | .len, [.str x] => if x.length ≤ cap then some (.int x.length) else none
  | .len, [.tup xs] => some (.int xs.length)
  | .len, [d] => (seqOf cs d).map fun xs => .int xs.length
  | .abs, [.int i] => some (.int (if i < 0 then -i else i))
  | .max2, [.int i, .int j] => some (.int (if j > i then j else i))
  | .min2, [.int i, .int j] => some (.int (if j < i then j else i))
  | .int, [.int i] => some (.int i)
  | .int, [.bl b] => some (.int (if b then 1 else 0))
  | .int, [.str x] => if x.length ≤ 640 then (match PySem.intText? x with | some n => some (.int n) | none => none) else none
  | .divmod, [.int i, .int j] => if 0 < j ∧ j < 1073741824 then some (.tup [.int (i / j), .int (i % j)]) else none
  | .tuple, [.tup xs] => some (.tup xs)
  | .tuple, [d] => (seqOf cs d).map .tup
  | .all, [d] => match seqOf cs d with | some xs => (match blsOf xs with | some bs => some (.bl (bs.all id)) | none => none) | none => none
  | .any, [d] => match seqOf cs d with | some xs => (match blsOf xs with | some bs => some (.bl (bs.any id)) | none => none) | none => none
  | .sum, [.tup xs] => match intsOf xs with | some bs => some (.int bs.sum) | none => none
  | .sum, [d] => match seqOf cs d with | some xs => (match intsOf xs with | some bs => some (.int bs.sum) | none => none) | none => none
  | .isi, [d, t] => match isiD cs d t with | some b => some (.bl b) | none => none
  | .repr, [d] => match py cs d with | some x => if (x.showable && decide (x.depth ≤ 64)) = true ∧ x.shown.length ≤ cap ∧ x.hasDict = false then some (.str x.shown) else none | none => none
  | _, _ => none
def mtD (cs : Cells) : Mt → D → List D → Option (D × Cells)
  | .append, .ref n, [d] => match cs[n]? with | some (.lst xs) => if xs.length < cap then some (.non, cs.set n (.lst (xs ++ [d]))) else none | _ => none
  | .extend, .ref n, [d] => match cs[n]?, lstOf cs d with | some (.lst xs), some ys => if xs.length + ys.length ≤ cap then some (.non, cs.set n (.lst (xs ++ ys))) else none | _, _ => none
  | .pop, .ref n, [] => match cs[n]? with | some (.lst xs) => (match xs[xs.length - 1]? with | some y => some (y, cs.set n (.lst xs.dropLast)) | none => none) | _ => none
  | .popAt, .ref n, [.int i] => match cs[n]? with
    | some (.lst xs) => if 0 ≤ i ∧ i < xs.length ∧ xs.length ≤ cap then (match xs[i.toNat]? with | some y => some (y, cs.set n (.lst (xs.eraseIdx i.toNat))) | none => none) else none
    | _ => none
  | .clear, .ref n, [] => match cs[n]? with | some (.lst xs) => some (.non, cs.set n (.lst [])) | _ => none
  | .reverse, .ref n, [] => match cs[n]? with | some (.lst xs) => some (.non, cs.set n (.lst xs.reverse)) | _ => none
  | .join, .str sep, [d] => match seqOf cs d with
    | some xs => (match strsOf xs with | some ws => if (ws.map (·.length)).sum + ws.length * sep.length ≤ cap then some (.str (Txt.join sep ws), cs) else none | none => none)
    | none => none
  | .startswith, .str a, [.str b] => some (.bl (Txt.startswith a b), cs)
  | .strip, .str a, [.str b] => if a.length ≤ cap then some (.str (Txt.stripChars a b), cs) else none
  | _, _, _ => none
/-- whose method it is -/
def mtOk (cs : Cells) : Mt → D → Bool
  | .join, .str _ => true
  | .startswith, .str _ => true
  | .strip, .str _ => true
  | .append, .ref n | .extend, .ref n | .pop, .ref n | .popAt, .ref n | .clear, .ref n | .reverse, .ref n => (match cs[n]? with | some (.lst _) => true | _ => false)
  | _, _ => false
def idxD (cs : Cells) (a b : D) : Option D := match a, b with
  | .tup xs, .int i => atI xs i
  | .str x, .int i => if x.length ≤ cap then (match atI x.cps.toList i with | some c => some (.str ⟨#[c]⟩) | none => none) else none
  | d, .int i => match seqOf cs d with | some xs => atI xs i | none => none
  | _, _ => none
def zipD (x y : Str) : List D := List.zipWith (fun c d => D.tup [.str ⟨#[c]⟩, .str ⟨#[d]⟩]) x.cps.toList y.cps.toList
def chrs (x : Str) : List D := x.cps.toList.map fun c => .str ⟨#[c]⟩
def pairOf (cs : Cells) (d : D) : Option (Str × Str) := match (match d with | .tup xs => some xs | d => seqOf cs d) with
  | some [.str x, .str y] => some (x, y)
  | _ => none
def cutD (xs : List D) (lo hi : Option Int) : List D := (xs.drop (HT.sIx xs.length 0 lo)).take (HT.sIx xs.length xs.length hi - HT.sIx xs.length 0 lo)
def slcD (a : D) (lo hi : Option Int) : Option D := match a with
  | .str x => if x.length ≤ cap then some (.str (cutS x lo hi)) else none
  | .tup xs => some (.tup (cutD xs lo hi))
  | _ => none

/-! ### what a def leaves: its own cells are frozen -/
mutual
def rsv (g : Nat → Option D) : D → Option D
  | .ref n => g n
  | .tup xs => match rsvL g xs with | some ys => some (.tup ys) | none => none
  | .lst xs => match rsvL g xs with | some ys => some (.lst ys) | none => none
  | .scr xs => match rsvL g xs with | some ys => some (.scr ys) | none => none
  | .dct ks xs => match rsvL g xs with | some ys => some (.dct ks ys) | none => none
  | .obj c ns xs => match rsvL g xs with | some ys => some (.obj c ns ys) | none => none
  | .non => some .non
  | .bl b => some (.bl b)
  | .int i => some (.int i)
  | .str x => some (.str x)
  | .ty n => some (.ty n)
def rsvL (g : Nat → Option D) : List D → Option (List D)
  | [] => some []
  | d :: ds => match rsv g d, rsvL g ds with | some x, some ys => some (x :: ys) | _, _ => none
end
def rf (cs : Cells) (n0 : Nat) : Nat → Nat → Option D
  | 0, n => if n < n0 then some (.ref n) else none
  | f + 1, n => if n < n0 then some (.ref n) else match cs[n]? with
    | some (.lst xs) => (match rsvL (rf cs n0 f) xs with | some ys => some (.lst ys) | none => none)
    | some (.ins c ns xs) => (match rsvL (rf cs n0 f) xs with | some ys => some (.obj c ns ys) | none => none)
    | _ => none
def rsvC (g : Nat → Option D) : Cells → Option Cells
  | [] => some []
  | .lst xs :: r => match rsvL g xs, rsvC g r with | some ys, some zs => some (.lst ys :: zs) | _, _ => none
  | .dct ks xs :: r => match rsvL g xs, rsvC g r with | some ys, some zs => some (.dct ks ys :: zs) | _, _ => none
  | .ins c ns xs :: r => match rsvL g xs, rsvC g r with | some ys, some zs => some (.ins c ns ys :: zs) | _, _ => none
def fin (keep : Bool) (n0 : Nat) (v : D) (cs : Cells) : Option (D × Cells) :=
  if keep = true then some (v, cs) else
    match rsv (rf cs n0 3) v, rsvC (rf cs n0 3) (cs.take n0) with
    | some v', some cs' => some (v', cs')
    | _, _ => none
/-- a thing of an own class -/
def insOf (cs : Cells) : D → Option (Addr × List Str × List D)
  | .obj c ns vs => some (c, ns, vs)
  | .ref n => match cs[n]? with | some (.ins c ns vs) => some (c, ns, vs) | _ => none
  | _ => none
def getF : List Str → List D → Str → Option D
  | n :: ns, d :: ds, f => if n = f then some d else getF ns ds f
  | _, _, _ => none
def putN (f : Str) : List Str → List Str
  | [] => [f]
  | n :: ns => if n = f then n :: ns else n :: putN f ns
def putD (f : Str) (d : D) : List Str → List D → List D
  | n :: ns, x :: ds => if n = f then d :: ds else x :: putD f d ns ds
  | _, _ => [d]
def permD : List Nat → List D → Option (List D)
  | [], _ => some []
  | j :: js, l => match l[j]?, permD js l with | some d, some r => some (d :: r) | _, _ => none

/-! ### what is done -/
abbrev Phi := Nat → List D → Cells → Option (D × Cells)
inductive R where
  | nx (env : Sl) (cs : Cells) | rt (d : D) (cs : Cells) | bk (env : Sl) (cs : Cells) | ct (env : Sl) (cs : Cells)
def wipeE (env : Sl) : List Nat → Sl
  | [] => env
  | v :: vs => (wipeE env vs).set v none
/-- what is walked: things that stay, a list that is a cell (read anew at each step), numbered, two side by side -/
inductive Src where
  | fz (ds : List D) | cl (n : Nat) | en (a : Src) | zp (a b : Src)
/-- the next thing: none: it can't be told; some none: at its end -/
def Src.at_ (cs : Cells) (i : Nat) : Src → Option (Option D)
  | .fz ds => some ds[i]?
  | .cl n => match cs[n]? with | some (.lst xs) => some xs[i]? | _ => none
  | .en a => match a.at_ cs i with | some (some x) => some (some (.tup [.int (i : Int), x])) | some none => some none | none => none
  | .zp a b => match a.at_ cs i, b.at_ cs i with
    | some (some x), some (some y) => some (some (.tup [x, y]))
    | some none, some _ => some none
    | some (some _), some none => some none
    | _, _ => none
/-- no more steps than this -/
def Src.fuel (cs : Cells) : Src → Nat
  | .fz ds => ds.length + 1
  | .cl n => match cs[n]? with | some (.lst xs) => xs.length + 1 | _ => 0
  | .en a => a.fuel cs
  | .zp a _ => a.fuel cs
/-- a comprehension's walk: f gives what is to be put behind the list, if anything -/
def compGo (src : Src) (f : D → Cells → Option (Option D × Cells)) : Nat → Nat → List D → Cells → Option (List D × Cells)
  | 0, _, _, _ => none
  | m + 1, i, acc, cs => match src.at_ cs i with
    | some (some d) => (match f d cs with
      | some (none, cs1) => compGo src f m (i + 1) acc cs1
      | some (some y, cs1) => if acc.length < cap then compGo src f m (i + 1) (acc ++ [y]) cs1 else none
      | none => none)
    | some none => some (acc, cs)
    | none => none
def forGo (src : Src) (f : D → Sl → Cells → Option R) : Nat → Nat → Sl → Cells → Option R
  | 0, _, _, _ => none
  | m + 1, i, env, cs => match src.at_ cs i with
    | some (some d) => (match f d env cs with
      | some (.nx env1 cs1) => forGo src f m (i + 1) env1 cs1
      | some (.ct env1 cs1) => forGo src f m (i + 1) env1 cs1
      | some (.bk env1 cs1) => some (.nx env1 cs1)
      | some (.rt d cs1) => some (.rt d cs1)
      | none => none)
    | some none => some (.nx env cs)
    | none => none
def whlGo (c : Sl → Cells → Option (Bool × Cells)) (f : Sl → Cells → Option R) : Nat → Sl → Cells → Option R
  | 0, _, _ => none
  | n + 1, env, cs => match c env cs with
    | some (true, cs0) => (match f env cs0 with
      | some (.nx env1 cs1) => whlGo c f n env1 cs1
      | some (.ct env1 cs1) => whlGo c f n env1 cs1
      | some (.bk env1 cs1) => some (.nx env1 cs1)
      | some (.rt d cs1) => some (.rt d cs1)
      | none => none)
    | some (false, cs0) => some (.nx env cs0)
    | none => none
def rngD (lo : Int) (n : Nat) : List D := (List.range n).map fun (i : Nat) => D.int (lo + ((i : Nat) : Int))
/-- a list that is walked -/
def srcL (cs : Cells) : D → Option Src
  | .lst xs => some (.fz xs)
  | .scr xs => some (.fz xs)
  | .ref n => match cs[n]? with | some (.lst _) => some (.cl n) | _ => none
  | _ => none

mutual
/-- only these slots are stored -/
def tgtIn (vs : List Nat) : Tgt → Bool
  | .nm i => vs.contains i
  | .tp ts => tgtsIn vs ts
  | .sub _ _ => false
def tgtsIn (vs : List Nat) : Tgts → Bool
  | .nil => true
  | .cons t ts => tgtIn vs t && tgtsIn vs ts
end
section
variable (φ : Phi)
mutual
def evE : E → Sl → Cells → Option (D × Cells)
  | .var i, env, cs => match env[i]? with | some (some d) => some (d, cs) | _ => none
  | .cst d, _, cs => some (d, cs)
  | .glo _ d, _, cs => some (d, cs)
  | .op o a b, env, cs => match evE a env cs with
    | some (x, cs1) => (match evE b env cs1 with
      | some (y, cs2) => (match opD o x y with | some z => some (z, cs2) | none => none)
      | none => none)
    | none => none
  | .cmp o a b, env, cs => match evE a env cs with
    | some (x, cs1) => (match evE b env cs1 with
      | some (y, cs2) => (match cmpD cs2 o x y with | some z => some (.bl z, cs2) | none => none)
      | none => none)
    | none => none
  | .and es, env, cs => evAnd es env cs
  | .or es, env, cs => evOr es env cs
  | .not a, env, cs => match evE a env cs with
    | some (x, cs1) => (match truD cs1 x with | some b => some (.bl (!b), cs1) | none => none)
    | none => none
  | .neg a, env, cs => match evE a env cs with
    | some (.int i, cs1) => some (.int (-i), cs1)
    | _ => none
  | .ite c a b, env, cs => match evT c env cs with
    | some (true, cs1) => evE a env cs1
    | some (false, cs1) => evE b env cs1
    | none => none
  | .tup es, env, cs => match evEs es env cs with
    | some (ds, cs1) => if ds.length ≤ cap then some (.tup ds, cs1) else none
    | none => none
  | .new m l, env, cs => match evL l env cs with
    | some (ds, cs1) => if m = true then some (.ref cs1.length, cs1 ++ [.lst ds]) else some (.lst ds, cs1)
    | none => none
  | .idx a b, env, cs => match evE a env cs with
    | some (x, cs1) => (match evE b env cs1 with
      | some (y, cs2) => (match idxD cs2 x y with | some z => some (z, cs2) | none => none)
      | none => none)
    | none => none
  | .slc a lo hi, env, cs => match evE a env cs with
    | some (x, cs1) => (match evO lo env cs1 with
      | some (l, cs2) => (match evO hi env cs2 with
        | some (h, cs3) => (match slcD x l h with | some z => some (z, cs3) | none => none)
        | none => none)
      | none => none)
    | none => none
  | .call f es, env, cs => match evEs es env cs with
    | some (ds, cs1) => φ f ds cs1
    | none => none
  | .bi b es, env, cs => match evEs es env cs with
    | some (ds, cs1) => (match biD cs1 b ds with | some z => some (z, cs1) | none => none)
    | none => none
  | .mt m o es, env, cs => match evE o env cs with
    | some (x, cs1) => if mtOk cs1 m x = true then (match evEs es env cs1 with
      | some (ds, cs2) => mtD cs2 m x ds
      | none => none) else none
    | none => none
  | .chn o1 o2 a b c, env, cs => match evE a env cs with
    | some (x, cs1) => (match evE b env cs1 with
      | some (y, cs2) => (match cmpD cs2 o1 x y with
        | some true => (match evE c env cs2 with
          | some (z, cs3) => (match cmpD cs3 o2 y z with | some k => some (.bl k, cs3) | none => none)
          | none => none)
        | some false => some (.bl false, cs2)
        | none => none)
      | none => none)
    | none => none
  | .fld c f e, env, cs => match evE e env cs with
    | some (d, cs1) => (match insOf cs1 d with
      | some (c', ns, vs) => if c' = c then (match getF ns vs f with | some z => some (z, cs1) | none => none) else none
      | none => none)
    | none => none
  | .prp c _ i e, env, cs => match evE e env cs with
    | some (d, cs1) => (match insOf cs1 d with
      | some (c', _, _) => if c' = c then φ i [d] cs1 else none
      | none => none)
    | none => none
  | .mth c m i o es, env, cs => match evE o env cs with
    | some (d, cs1) => (match insOf cs1 d with
      | some (c', ns, _) => if c' = c ∧ ns.contains m = false then (match evEs es env cs1 with
        | some (ds, cs2) => φ i (d :: ds) cs2
        | none => none) else none
      | none => none)
    | none => none
  | .mk c i m es, env, cs => match evEs es env cs with
    | some (ds, cs1) => (match φ i (.ref cs1.length :: ds) (cs1 ++ [.ins c [] []]) with
      | some (.non, cs2) => fin m cs1.length (.ref cs1.length) cs2
      | _ => none)
    | none => none
  | .lenO c i e, env, cs => match evE e env cs with
    | some (d, cs1) => (match insOf cs1 d with
      | some (c', _, _) => if c' = c then (match φ i [d] cs1 with
        | some (.int n, cs2) => if 0 ≤ n ∧ n < 2 ^ 63 then some (.int n, cs2) else none
        | _ => none) else none
      | none => none)
    | none => none
  | .reprO c i e, env, cs => match evE e env cs with
    | some (d, cs1) => (match insOf cs1 d with
      | some (c', _, _) => if c' = c then (match φ i [d] cs1 with
        | some (.str x, cs2) => some (.str x, cs2)
        | _ => none) else none
      | none => none)
    | none => none
  | .eqO c i a b, env, cs => match evE a env cs with
    | some (x, cs1) => (match evE b env cs1 with
      | some (y, cs2) => (match insOf cs2 x, insOf cs2 y with
        | some (c1, _, _), some (c2, _, _) => if c1 = c ∧ c2 = c then (match φ i [x, y] cs2 with
          | some (.bl k, cs3) => some (.bl k, cs3)
          | _ => none) else none
        | _, _ => none)
      | none => none)
    | none => none
  | .callK kf es kw, env, cs => match evEs es env cs with
    | some (ds, cs1) => (match evEs kw env cs1 with
      | some (zs, cs2) => if ds.length = kf.n ∧ zs.length = kf.ks.length then (match permD kf.pm (ds ++ zs ++ kf.dfs.map At.d) with
        | some as => φ kf.i as cs2
        | none => none) else none
      | none => none)
    | none => none
  | .mthK c m kf o es kw, env, cs => match evE o env cs with
    | some (d, cs1) => (match insOf cs1 d with
      | some (c', ns, _) => if c' = c ∧ ns.contains m = false then (match evEs es env cs1 with
        | some (ds, cs2) => (match evEs kw env cs2 with
          | some (zs, cs3) => if ds.length + 1 = kf.n ∧ zs.length = kf.ks.length then (match permD kf.pm ((d :: ds) ++ zs ++ kf.dfs.map At.d) with
            | some as => φ kf.i as cs3
            | none => none) else none
          | none => none)
        | none => none) else none
      | none => none)
    | none => none
  | .mkK c kf m es kw, env, cs => match evEs es env cs with
    | some (ds, cs1) => (match evEs kw env cs1 with
      | some (zs, cs2) => if ds.length + 1 = kf.n ∧ zs.length = kf.ks.length then (match permD kf.pm ((.ref cs2.length :: ds) ++ zs ++ kf.dfs.map At.d) with
        | some as => (match φ kf.i as (cs2 ++ [.ins c [] []]) with
          | some (.non, cs3) => fin m cs2.length (.ref cs2.length) cs3
          | _ => none)
        | none => none) else none
      | none => none)
    | none => none
  | .gsub _ ks ds e, env, cs => match evE e env cs with
    | some (.str x, cs1) => (match getF ks ds x with | some d => some (d, cs1) | none => none)
    | _ => none
  | .gin _ ks neg e, env, cs => match evE e env cs with
    | some (.str x, cs1) => some (.bl (if neg = true then !(ks.contains x) else ks.contains x), cs1)
    | _ => none
  | .dsub ps e, env, cs => match evE e env cs with
    | some (.str x, cs1) => (match valV (mergeK [] (dkv ps)) (.inr x) with | some (.str y) => some (.str y, cs1) | _ => none)
    | _ => none
  | .stp a lo st, env, cs => match evE a env cs with
    | some (.str x, cs1) => if x.length ≤ cap ∧ st ≠ 0 then some (.str (stpS x lo st), cs1) else none
    | _ => none
/-- the truth of it -/
def evT : E → Sl → Cells → Option (Bool × Cells)
  | .and es, env, cs => evTA es env cs
  | .or es, env, cs => evTO es env cs
  | .not a, env, cs => match evT a env cs with
    | some (b, cs1) => some (!b, cs1)
    | none => none
  | .cmp o a b, env, cs => match evE a env cs with
    | some (x, cs1) => (match evE b env cs1 with
      | some (y, cs2) => (match cmpD cs2 o x y with | some z => some (z, cs2) | none => none)
      | none => none)
    | none => none
  | .var i, env, cs => match env[i]? with | some (some d) => (match truD cs d with | some b => some (b, cs) | none => none) | _ => none
  | .call f es, env, cs => match evEs es env cs with
    | some (ds, cs1) => (match φ f ds cs1 with
      | some (d, cs2) => (match truD cs2 d with | some b => some (b, cs2) | none => none)
      | none => none)
    | none => none
  | .bi b es, env, cs => match evEs es env cs with
    | some (ds, cs1) => (match biD cs1 b ds with
      | some z => (match truD cs1 z with | some b => some (b, cs1) | none => none)
      | none => none)
    | none => none
  | .mt m o es, env, cs => match evE o env cs with
    | some (x, cs1) => if mtOk cs1 m x = true then (match evEs es env cs1 with
      | some (ds, cs2) => (match mtD cs2 m x ds with
        | some (z, cs3) => (match truD cs3 z with | some b => some (b, cs3) | none => none)
        | none => none)
      | none => none) else none
    | none => none
  | .chn o1 o2 a b c, env, cs => match evE a env cs with
    | some (x, cs1) => (match evE b env cs1 with
      | some (y, cs2) => (match cmpD cs2 o1 x y with
        | some true => (match evE c env cs2 with
          | some (z, cs3) => (match cmpD cs3 o2 y z with | some k => some (k, cs3) | none => none)
          | none => none)
        | some false => some (false, cs2)
        | none => none)
      | none => none)
    | none => none
  | .fld c f e, env, cs => match evE e env cs with
    | some (d, cs1) => (match insOf cs1 d with
      | some (c', ns, vs) => if c' = c then (match getF ns vs f with | some z => (match truD cs1 z with | some b => some (b, cs1) | none => none) | none => none) else none
      | none => none)
    | none => none
  | .prp c _ i e, env, cs => match evE e env cs with
    | some (d, cs1) => (match insOf cs1 d with
      | some (c', _, _) => if c' = c then (match φ i [d] cs1 with | some (z, cs2) => (match truD cs2 z with | some b => some (b, cs2) | none => none) | none => none) else none
      | none => none)
    | none => none
  | .mth c m i o es, env, cs => match evE o env cs with
    | some (d, cs1) => (match insOf cs1 d with
      | some (c', ns, _) => if c' = c ∧ ns.contains m = false then (match evEs es env cs1 with
        | some (ds, cs2) => (match φ i (d :: ds) cs2 with | some (z, cs3) => (match truD cs3 z with | some b => some (b, cs3) | none => none) | none => none)
        | none => none) else none
      | none => none)
    | none => none
  | .eqO c i a b, env, cs => match evE a env cs with
    | some (x, cs1) => (match evE b env cs1 with
      | some (y, cs2) => (match insOf cs2 x, insOf cs2 y with
        | some (c1, _, _), some (c2, _, _) => if c1 = c ∧ c2 = c then (match φ i [x, y] cs2 with
          | some (.bl k, cs3) => some (k, cs3)
          | _ => none) else none
        | _, _ => none)
      | none => none)
    | none => none
  | .gin _ ks neg e, env, cs => match evE e env cs with
    | some (.str x, cs1) => some (if neg = true then !(ks.contains x) else ks.contains x, cs1)
    | _ => none
  | _, _, _ => none
def evAnd : Es → Sl → Cells → Option (D × Cells)
  | .nil, _, _ => none
  | .cons e .nil, env, cs => evE e env cs
  | .cons e (.cons e2 es), env, cs => match evE e env cs with
    | some (.bl true, cs1) => evAnd (.cons e2 es) env cs1
    | some (.bl false, cs1) => some (.bl false, cs1)
    | _ => none
def evOr : Es → Sl → Cells → Option (D × Cells)
  | .nil, _, _ => none
  | .cons e .nil, env, cs => evE e env cs
  | .cons e (.cons e2 es), env, cs => match evE e env cs with
    | some (.bl true, cs1) => some (.bl true, cs1)
    | some (.bl false, cs1) => evOr (.cons e2 es) env cs1
    | _ => none
def evTA : Es → Sl → Cells → Option (Bool × Cells)
  | .nil, _, _ => none
  | .cons e .nil, env, cs => evT e env cs
  | .cons e (.cons e2 es), env, cs => match evT e env cs with
    | some (true, cs1) => evTA (.cons e2 es) env cs1
    | some (false, cs1) => some (false, cs1)
    | none => none
def evTO : Es → Sl → Cells → Option (Bool × Cells)
  | .nil, _, _ => none
  | .cons e .nil, env, cs => evT e env cs
  | .cons e (.cons e2 es), env, cs => match evT e env cs with
    | some (true, cs1) => some (true, cs1)
    | some (false, cs1) => evTO (.cons e2 es) env cs1
    | none => none
def evEs : Es → Sl → Cells → Option (List D × Cells)
  | .nil, _, cs => some ([], cs)
  | .cons e es, env, cs => match evE e env cs with
    | some (d, cs1) => (match evEs es env cs1 with
      | some (ds, cs2) => some (d :: ds, cs2)
      | none => none)
    | none => none
def evO : Eo → Sl → Cells → Option (Option Int × Cells)
  | .no, _, cs => some (none, cs)
  | .so e, env, cs => match evE e env cs with
    | some (.int i, cs1) => some (some i, cs1)
    | _ => none
def evC : Eo → Sl → Cells → Option (Bool × Cells)
  | .no, _, cs => some (true, cs)
  | .so e, env, cs => evT e env cs
def evL : L → Sl → Cells → Option (List D × Cells)
  | .disp es, env, cs => match evEs es env cs with
    | some (ds, cs1) => if ds.length ≤ cap then some (ds, cs1) else none
    | none => none
  | .comp own t it c e, env, cs => match evI it env cs with
    | some (src, cs1) => compGo src (fun d cs2 => match evG t d (wipeE env (own.map (·.2))) cs2 with
      | some (env1, cs3) => if tgtIn (own.map (·.2)) t = true then (match evC c env1 cs3 with
        | some (true, cs4) => (match evE e env1 cs4 with | some (y, cs5) => some (some y, cs5) | none => none)
        | some (false, cs4) => some (none, cs4)
        | none => none) else none
      | none => none) (src.fuel cs1) 0 [] cs1
    | none => none
  | .ofSeq e, env, cs => match evE e env cs with
    | some (.tup xs, cs1) => some (xs, cs1)
    | some (d, cs1) => (match seqOf cs1 d with | some xs => some (xs, cs1) | none => none)
    | none => none
  | .cat a b, env, cs => match evE a env cs with
    | some (x, cs1) => (match evE b env cs1 with
      | some (y, cs2) => (match lstOf cs2 x, lstOf cs2 y with
        | some xs, some ys => if xs.length + ys.length ≤ cap then some (xs ++ ys, cs2) else none
        | _, _ => none)
      | none => none)
    | none => none
  | .rep a b, env, cs => match evE a env cs with
    | some (x, cs1) => (match evE b env cs1 with
      | some (.int k, cs2) => (match lstOf cs2 x with
        | some xs => if -(2 ^ 63) ≤ k ∧ k < 2 ^ 63 ∧ xs.length * k.toNat ≤ cap then some ((List.replicate k.toNat xs).flatten, cs2) else none
        | _ => none)
      | _ => none)
    | none => none
  | .slice a lo hi, env, cs => match evE a env cs with
    | some (x, cs1) => (match evO lo env cs1 with
      | some (l, cs2) => (match evO hi env cs2 with
        | some (h, cs3) => (match seqOf cs3 x with | some xs => some (cutD xs l h, cs3) | none => none)
        | none => none)
      | none => none)
    | none => none
  | .sorted _, _, _ => none
  | .zipL a b, env, cs => match evE a env cs with
    | some (.str x, cs1) => (match evE b env cs1 with
      | some (.str y, cs2) => if min x.cps.size y.cps.size ≤ cap then some (zipD x y, cs2) else none
      | _ => none)
    | _ => none
def evI : I → Sl → Cells → Option (Src × Cells)
  | .lst e, env, cs => match evE e env cs with
    | some (d, cs1) => (match srcL cs1 d with | some a => some (a, cs1) | none => none)
    | none => none
  | .tup e, env, cs => match evE e env cs with
    | some (.tup xs, cs1) => some (.fz xs, cs1)
    | _ => none
  | .str e, env, cs => match evE e env cs with
    | some (.str x, cs1) => some (.fz (x.cps.toList.map fun c => .str ⟨#[c]⟩), cs1)
    | _ => none
  | .rng1 e, env, cs => match evE e env cs with
    | some (.int j, cs1) => if -(2 ^ 62) ≤ j ∧ j < 2 ^ 62 then some (.fz (rngD 0 j.toNat), cs1) else none
    | _ => none
  | .rng2 a b, env, cs => match evE a env cs with
    | some (.int i, cs1) => (match evE b env cs1 with
      | some (.int j, cs2) => if (-(2 ^ 62) ≤ i ∧ i < 2 ^ 62) ∧ -(2 ^ 62) ≤ j ∧ j < 2 ^ 62 then some (.fz (rngD i (j - i).toNat), cs2) else none
      | _ => none)
    | _ => none
  | .enum e, env, cs => match evE e env cs with
    | some (d, cs1) => (match srcL cs1 d with | some a => some (.en a, cs1) | none => none)
    | none => none
  | .zip a b, env, cs => match evE a env cs with
    | some (x, cs1) => (match evE b env cs1 with
      | some (y, cs2) => (match x, y with
        | .tup xs, .tup ys => some (.zp (.fz xs) (.fz ys), cs2)
        | x, y => (match srcL cs2 x, srcL cs2 y with | some s, some t => some (.zp s t, cs2) | _, _ => none))
      | _ => none)
    | _ => none
  | .zipT a b, env, cs => match evE a env cs with
    | some (.str x, cs1) => (match evE b env cs1 with
      | some (.str y, cs2) => some (.zp (.fz (chrs x)) (.fz (chrs y)), cs2)
      | _ => none)
    | _ => none
  | .zipS e, env, cs => match evE e env cs with
    | some (d, cs1) => (match pairOf cs1 d with | some (x, y) => some (.zp (.fz (chrs x)) (.fz (chrs y)), cs1) | none => none)
    | none => none
def evG : Tgt → D → Sl → Cells → Option (Sl × Cells)
  | .nm i, d, env, cs => some (env.set i (some d), cs)
  | .tp ts, .tup ds, env, cs => evGs ts ds env cs
  | .tp _, _, _, _ => none
  | .sub o i, d, env, cs => match evE o env cs with
    | some (.ref n, cs1) => (match evE i env cs1 with
      | some (.int k, cs2) => (match cs2[n]? with
        | some (.lst xs) => (match ixN xs.length k with | some j => some (env, cs2.set n (.lst (xs.set j d))) | none => none)
        | _ => none)
      | _ => none)
    | _ => none
def evGs : Tgts → List D → Sl → Cells → Option (Sl × Cells)
  | .nil, [], env, cs => some (env, cs)
  | .cons t ts, d :: ds, env, cs => match evG t d env cs with
    | some (env1, cs1) => evGs ts ds env1 cs1
    | none => none
  | _, _, _, _ => none
end

mutual
def evS (w : Nat) : S → Sl → Cells → Option R
  | .ex e, env, cs => match evE φ e env cs with | some (_, cs1) => some (.nx env cs1) | none => none
  | .asg t e, env, cs => match evE φ e env cs with
    | some (d, cs1) => (match evG φ t d env cs1 with | some (env1, cs2) => some (.nx env1 cs2) | none => none)
    | none => none
  | .asgC i m l, env, cs => match evE φ (.new m l) env cs with
    | some (d, cs1) => some (.nx (env.set i (some d)) cs1)
    | none => none
  | .par is es, env, cs => match evEs φ es env cs with
    | some (ds, cs1) => if ds.length = is.length then some (.nx ((is.zip ds).foldl (fun en p => en.set p.1 (some p.2)) env) cs1) else none
    | none => none
  | .aug i o e, env, cs => match env[i]? with
    | some (some x) => (match evE φ e env cs with
      | some (y, cs1) => (match (if o = .Add then augD x y else opD o x y) with | some z => some (.nx (env.set i (some z)) cs1) | none => none)
      | none => none)
    | _ => none
  | .ifs c a b, env, cs => match evT φ c env cs with
    | some (true, cs1) => evSs w a env cs1
    | some (false, cs1) => evSs w b env cs1
    | none => none
  | .for t it b, env, cs => match evI φ it env cs with
    | some (src, cs1) => forGo src (fun d env1 cs2 => match evG φ t d env1 cs2 with
      | some (env2, cs3) => evSs w b env2 cs3
      | none => none) (src.fuel cs1) 0 env cs1
    | none => none
  | .whl c b, env, cs => whlGo (fun env1 cs1 => evT φ c env1 cs1) (fun env1 cs1 => evSs w b env1 cs1) w env cs
  | .ret e, env, cs => match evE φ e env cs with | some (d, cs1) => some (.rt d cs1) | none => none
  | .retN, _, cs => some (.rt .non cs)
  | .pass, env, cs => some (.nx env cs)
  | .brk, env, cs => some (.bk env cs)
  | .cont, env, cs => some (.ct env cs)
  | .never, _, _ => none
  | .fset c o f e, env, cs => match evE φ e env cs with
    | some (d, cs1) => (match evE φ o env cs1 with
      | some (.ref n, cs2) => (match cs2[n]? with
        | some (.ins c' ns vs) => if c' = c ∧ ns.length < 999 then some (.nx env (cs2.set n (.ins c (putN f ns) (putD f d ns vs)))) else none
        | _ => none)
      | _ => none)
    | none => none
def evSs (w : Nat) : Ss → Sl → Cells → Option R
  | .nil, env, cs => some (.nx env cs)
  | .cons s r, env, cs => match evS w s env cs with
    | some (.nx env1 cs1) => evSs w r env1 cs1
    | x => x
end
end
end Mc
set_option Elab.async false
set_option linter.all false
set_option maxRecDepth 100000
set_option maxHeartbeats 2000000
namespace Mc
open PySem PySem.Spec PyProof.Rows L2

/-! ### values by what they stand for -/
section
variable {K : PySem.W.Frag} {Hd H : Hp} {ρ : List Addr} {cs : Cells} {v : V}
theorem dn_non : Dn K H ρ .non v ↔ v = .non := by unfold Dn; exact Iff.rfl
theorem dn_bl {b : Bool} : Dn K H ρ (.bl b) v ↔ v = .bl b := by unfold Dn; exact Iff.rfl
theorem dn_int {b : Int} : Dn K H ρ (.int b) v ↔ v = .int b := by unfold Dn; exact Iff.rfl
theorem dn_str {b : Str} : Dn K H ρ (.str b) v ↔ v = .str b := by unfold Dn; exact Iff.rfl
theorem dn_tup {xs : List D} : Dn K H ρ (.tup xs) v ↔ ∃ a vs, v = .ref a ∧ TupAt K H a vs ∧ DnL K H ρ xs vs := by unfold Dn; exact Iff.rfl
theorem dn_lst {xs : List D} : Dn K H ρ (.lst xs) v ↔ ∃ a vs, v = .ref a ∧ H a = some (.lst vs) ∧ DnL K H ρ xs vs := by unfold Dn; exact Iff.rfl
theorem dn_scr {xs : List D} : Dn K H ρ (.scr xs) v ↔ ∃ a vs, v = .ref a ∧ SqL K H a vs ∧ DnL K H ρ xs vs := by unfold Dn; exact Iff.rfl
theorem dn_ref {n : Nat} : Dn K H ρ (.ref n) v ↔ ∃ a, v = .ref a ∧ ρ[n]? = some a := by unfold Dn; exact Iff.rfl
theorem dn_obj {c : Addr} {ns : List Str} {ds : List D} : Dn K H ρ (.obj c ns ds) v ↔ ∃ a dx vs, v = .ref a ∧ H a = some (.ins c dx (ns.zip vs)) ∧ ns.length = ds.length ∧ DnL K H ρ ds vs := by unfold Dn; exact Iff.rfl
theorem lstOf_ok (S : Sim K Hd ρ cs H) {d : D} {xs : List D} (h : lstOf cs d = some xs) (r : Dn K Hd ρ d v) : ∃ a vs, v = .ref a ∧ H a = some (.lst vs) ∧ DnL K Hd ρ xs vs := by
  cases d <;> simp only [lstOf] at h <;> try cases h
  · obtain ⟨a, vs, e1, e2, e3⟩ := dn_lst.mp r
    exact ⟨a, vs, e1, S.sub _ _ e2, e3⟩
  · rename_i n
    obtain ⟨a, e1, e2⟩ := dn_ref.mp r
    obtain ⟨c, e3, _, e4⟩ := S.at_cell e2
    rw [e3] at h
    cases c with
    | lst ys =>
      simp at h; subst h
      obtain ⟨vs, q1, q2⟩ := e4
      exact ⟨a, vs, e1, q1, q2⟩
    | dct ks ys => simp at h
    | ins c ns ys => simp at h
theorem seqOf_ok (S : Sim K Hd ρ cs H) {d : D} {xs : List D} (h : seqOf cs d = some xs) (r : Dn K Hd ρ d v) : ∃ a vs, v = .ref a ∧ SqL K H a vs ∧ DnL K Hd ρ xs vs := by
  cases d with
  | lst ys =>
    simp only [seqOf] at h; cases h
    obtain ⟨a, vs, e1, e2, e3⟩ := dn_lst.mp r
    exact ⟨a, vs, e1, SqL.of (S.sub _ _ e2), e3⟩
  | scr ys =>
    simp only [seqOf] at h; cases h
    obtain ⟨a, vs, e1, e2, e3⟩ := dn_scr.mp r
    exact ⟨a, vs, e1, S.sub.seq e2, e3⟩
  | ref n =>
    obtain ⟨a, vs, e1, e2, e3⟩ := lstOf_ok S (d := .ref n) (xs := xs) (by simpa only [seqOf, lstOf] using h) r
    exact ⟨a, vs, e1, SqL.of e2, e3⟩
  | _ => simp only [seqOf] at h; cases h
mutual
theorem py0_ok (S : Same Hd H) : ∀ (d : D) (x : PyData) (v : V), py0 d = some x → Dn K Hd ρ d v → Dp K H v x
  | .non, _, _, h, r => by simp only [py0] at h; cases h; rw [dn_non.mp r]; exact .non
  | .bl b, _, _, h, r => by simp only [py0] at h; cases h; rw [dn_bl.mp r]; exact .bl b
  | .int b, _, _, h, r => by simp only [py0] at h; cases h; rw [dn_int.mp r]; exact .int b
  | .str b, _, _, h, r => by simp only [py0] at h; cases h; rw [dn_str.mp r]; exact .str b
  | .tup xs, _, _, h, r => by
    simp only [py0] at h
    obtain ⟨a, vs, rfl, e2, e3⟩ := dn_tup.mp r
    cases e : py0L xs with
    | none => rw [e] at h; cases h
    | some ys => rw [e] at h; cases h; exact .tup (e2.sq S) (py0L_ok S xs ys vs e e3)
  | .lst xs, _, _, h, r => by
    simp only [py0] at h
    obtain ⟨a, vs, rfl, e2, e3⟩ := dn_lst.mp r
    cases e : py0L xs with
    | none => rw [e] at h; cases h
    | some ys => rw [e] at h; cases h; exact .lst (SqL.of (S _ _ e2)) (py0L_ok S xs ys vs e e3)
  | .scr xs, _, _, h, r => by
    simp only [py0] at h
    obtain ⟨a, vs, rfl, e2, e3⟩ := dn_scr.mp r
    cases e : py0L xs with
    | none => rw [e] at h; cases h
    | some ys => rw [e] at h; cases h; exact .lst (S.seq e2) (py0L_ok S xs ys vs e e3)
  | .dct _ _, _, _, h, _ => by simp only [py0] at h; cases h
  | .obj _ _ _, _, _, h, _ => by simp only [py0] at h; cases h
  | .ref _, _, _, h, _ => by simp only [py0] at h; cases h
  | .ty _, _, _, h, _ => by simp only [py0] at h; cases h
theorem py0L_ok (S : Same Hd H) : ∀ (ds : List D) (xs : List PyData) (vs : List V), py0L ds = some xs → DnL K Hd ρ ds vs → DpAll K H vs xs
  | [], _, _, h, r => by simp only [py0L] at h; cases h; rw [r.of_nil]; exact .nil
  | d :: ds, _, _, h, r => by
    simp only [py0L] at h
    obtain ⟨v, rs, rfl, h1, h2⟩ := r.of_cons
    cases e1 : py0 d with
    | none => rw [e1] at h; cases h
    | some x =>
      cases e2 : py0L ds with
      | none => rw [e1, e2] at h; cases h
      | some ys => rw [e1, e2] at h; cases h; exact .cons (py0_ok S d x v e1 h1) (py0L_ok S ds ys rs e2 h2)
end
theorem py_ok (S : Sim K Hd ρ cs H) {d : D} {x : PyData} (h : py cs d = some x) (r : Dn K Hd ρ d v) : Dp K H v x := by
  cases d with
  | ref n =>
    simp only [py] at h
    obtain ⟨a, rfl, e2⟩ := dn_ref.mp r
    obtain ⟨c, e3, _, e4⟩ := S.at_cell e2
    rw [e3] at h
    cases c with
    | lst ys =>
      simp only at h
      obtain ⟨vs, q1, q2⟩ := e4
      cases e : py0L ys with
      | none => rw [e] at h; cases h
      | some zs => rw [e] at h; cases h; exact .lst (SqL.of q1) (py0L_ok S.sub ys zs vs e q2)
    | dct ks ys => simp at h
    | ins c ns ys => simp at h
  | _ => exact py0_ok S.sub _ x v h r
theorem flat_ok {d : D} (h : flatB d = true) (r : Dn K H ρ d v) : flatV v = true := by
  cases d <;> simp only [flatB] at h <;> try cases h
  · rw [dn_non.mp r]; rfl
  · rw [dn_bl.mp r]; rfl
  · rw [dn_int.mp r]; rfl
  · rw [dn_str.mp r]; rfl
theorem eqF_ok {a b : D} {x y : V} (fa : flatB a = true) (fb : flatB b = true) (ra : Dn K H ρ a x) (rb : Dn K H ρ b y) : eqV x y = eqF a b := by
  cases a <;> simp only [flatB] at fa <;> (try cases fa) <;> cases b <;> simp only [flatB] at fb <;> (try cases fb) <;>
    simp only [dn_non, dn_bl, dn_int, dn_str] at ra rb <;> subst ra <;> subst rb <;> rfl
theorem flats_ok : ∀ {ds : List D} {vs : List V}, ds.all flatB = true → DnL K H ρ ds vs → vs.all flatV = true
  | [], _, _, r => by rw [r.of_nil]; rfl
  | d :: ds, _, h, r => by
    obtain ⟨v, rs, rfl, h1, h2⟩ := r.of_cons
    rw [List.all_cons, Bool.and_eq_true] at h ⊢
    exact ⟨flat_ok h.1 h1, flats_ok h.2 h2⟩
theorem inV_ok {a : D} {x : V} (fa : flatB a = true) (ra : Dn K H ρ a x) : ∀ {ds : List D} {vs : List V}, ds.all flatB = true → DnL K H ρ ds vs → inV x vs = ds.any fun y => eqF y a
  | [], _, _, r => by rw [r.of_nil]; rfl
  | d :: ds, _, h, r => by
    obtain ⟨v, rs, rfl, h1, h2⟩ := r.of_cons
    rw [List.all_cons, Bool.and_eq_true] at h
    have ih := inV_ok fa ra h.2 h2
    unfold inV at ih ⊢
    rw [List.any_cons, List.any_cons, ih, eqF_ok h.1 fa h1 ra]
theorem strsOf_ok : ∀ {ds : List D} {ws : List Str}, strsOf ds = some ws → ds = ws.map D.str
  | [], _, h => by simp only [strsOf] at h; cases h; rfl
  | .str x :: r, _, h => by
    simp only [strsOf] at h
    cases e : strsOf r with
    | none => rw [e] at h; cases h
    | some ys => rw [e] at h; cases h; rw [strsOf_ok e]; rfl
  | .non :: _, _, h | .bl _ :: _, _, h | .int _ :: _, _, h | .tup _ :: _, _, h | .lst _ :: _, _, h | .scr _ :: _, _, h | .dct _ _ :: _, _, h | .obj _ _ _ :: _, _, h | .ref _ :: _, _, h | .ty _ :: _, _, h => by simp only [strsOf] at h; cases h
theorem intsOf_ok : ∀ {ds : List D} {ws : List Int}, intsOf ds = some ws → ds = ws.map D.int
  | [], _, h => by simp only [intsOf] at h; cases h; rfl
  | .int x :: r, _, h => by
    simp only [intsOf] at h
    cases e : intsOf r with
    | none => rw [e] at h; cases h
    | some ys => rw [e] at h; cases h; rw [intsOf_ok e]; rfl
  | .non :: _, _, h | .bl _ :: _, _, h | .str _ :: _, _, h | .tup _ :: _, _, h | .lst _ :: _, _, h | .scr _ :: _, _, h | .dct _ _ :: _, _, h | .obj _ _ _ :: _, _, h | .ref _ :: _, _, h | .ty _ :: _, _, h => by simp only [intsOf] at h; cases h
theorem blsOf_ok : ∀ {ds : List D} {ws : List Bool}, blsOf ds = some ws → ds = ws.map D.bl
  | [], _, h => by simp only [blsOf] at h; cases h; rfl
  | .bl x :: r, _, h => by
    simp only [blsOf] at h
    cases e : blsOf r with
    | none => rw [e] at h; cases h
    | some ys => rw [e] at h; cases h; rw [blsOf_ok e]; rfl
  | .non :: _, _, h | .int _ :: _, _, h | .str _ :: _, _, h | .tup _ :: _, _, h | .lst _ :: _, _, h | .scr _ :: _, _, h | .dct _ _ :: _, _, h | .obj _ _ _ :: _, _, h | .ref _ :: _, _, h | .ty _ :: _, _, h => by simp only [blsOf] at h; cases h
theorem cutD_ok {xs : List D} {vs : List V} (lo hi : Option Int) (h : DnL K H ρ xs vs) : DnL K H ρ (cutD xs lo hi) (cutV vs lo hi) := by
  unfold cutD cutV
  rw [h.length]
  exact (h.drop _).take _
theorem atI_ok {xs : List D} {vs : List V} {i : Int} {d : D} (h : DnL K H ρ xs vs) (e : atI xs i = some d) : ∃ v, atI vs i = some v ∧ Dn K H ρ d v := by
  unfold atI at e ⊢
  rw [h.length]
  cases q : ixN xs.length i with
  | none => rw [q] at e; cases e
  | some j =>
    rw [q] at e
    exact h.get e
theorem cap_le {n : Nat} (h : n ≤ cap) : n ≤ sizeLine := Nat.le_trans h (by decide)
theorem cap_lt {n : Nat} (h : n < cap) : n < sizeLine := Nat.lt_of_lt_of_le h (by decide)
end

/-! ### what is wanted behind an expression -/
def Post (K : PySem.W.Frag) (Hd : Hp) (ρ : List Addr) (H : Hp) (cs' : Cells) (d : D) (Q : VK) : Prop := ∀ Hd' ρ' H' v, Step Hd ρ H Hd' ρ' H' → Sim K Hd' ρ' cs' H' → Dn K Hd' ρ' d v → Q v H'
theorem Post.here {K : PySem.W.Frag} {Hd H : Hp} {ρ : List Addr} {cs : Cells} {d : D} {Q : VK} {v : V} (p : Post K Hd ρ H cs d Q) (S : Sim K Hd ρ cs H) (r : Dn K Hd ρ d v) : Q v H := p _ _ _ _ (Step.refl _ _ _) S r
theorem Post.step {K : PySem.W.Frag} {Hd H Hd1 H1 : Hp} {ρ ρ1 : List Addr} {cs : Cells} {d : D} {Q : VK} (p : Post K Hd ρ H cs d Q) (s : Step Hd ρ H Hd1 ρ1 H1) : Post K Hd1 ρ1 H1 cs d Q := fun _ _ _ _ s' S r => p _ _ _ _ (s.trans s') S r
section
variable {K : PySem.W.Frag} {Hd H : Hp} {ρ : List Addr} {cs : Cells} {Q : VK}
/-- a new tuple | list that is frozen at once -/
theorem Post.tup {ds : List D} {vs : List V} {p : Addr} (P : Post K Hd ρ H cs (.tup ds) Q) (S : Sim K Hd ρ cs H) (r : DnL K Hd ρ ds vs) (hp : H p = none) : Q (.ref p) (upd H p (.tup vs)) :=
  P _ _ _ _ (step_frozen S hp) (S.frozen hp) (dn_tup.mpr ⟨p, vs, rfl, .inl upd_same, DnL.mono (ext_upd (S.free hp)) _ _ r⟩)
theorem Post.lst {ds : List D} {vs : List V} {p : Addr} (P : Post K Hd ρ H cs (.lst ds) Q) (S : Sim K Hd ρ cs H) (r : DnL K Hd ρ ds vs) (hp : H p = none) : Q (.ref p) (upd H p (.lst vs)) :=
  P _ _ _ _ (step_frozen S hp) (S.frozen hp) (dn_lst.mpr ⟨p, vs, rfl, upd_same, DnL.mono (ext_upd (S.free hp)) _ _ r⟩)
end

/-! ### the operators -/
section
variable {X : Cx} {Hd H : Hp} {ρ : List Addr} {cs : Cells} {Q : VK} {a b z : D} {x y : V}
/-- the rule of an operator by data -/
def rD (K : PySem.W.Frag) (f : Cells → D → D → Option D) : R2 := fun x y H Q => ∃ Hd ρ cs a b z, Sim K Hd ρ cs H ∧ Dn K Hd ρ a x ∧ Dn K Hd ρ b y ∧ f cs a b = some z ∧ Post K Hd ρ H cs z Q
theorem opr_of {f : Value → Value → Sem Value} {r r' : R2} (h : OpR X f r) (i : ∀ x y H Q, r' x y H Q → r x y H Q) : OpR X f r' := fun pins s σ H x y v u Q I rx ry q => h pins s σ H x y v u Q I rx ry (i _ _ _ _ q)
theorem opr_or {f : Value → Value → Sem Value} {r r' : R2} (h : OpR X f r) (h' : OpR X f r') : OpR X f (fun x y H Q => r x y H Q ∨ r' x y H Q) := fun pins s σ H x y v u Q I rx ry q => by
  rcases q with q | q
  · exact h pins s σ H x y v u Q I rx ry q
  · exact h' pins s σ H x y v u Q I rx ry q
theorem op_addD : OpR X (binaryOp .Add) (rD X.K fun _ => opD .Add) := by
  refine opr_of (op_add.or (op_add_str.or op_catA)) fun x y H Q h => ?_
  obtain ⟨Hd, ρ, cs, a, b, z, S, ra, rb, e, p⟩ := h
  cases a <;> cases b <;> simp only [opD] at e <;> try cases e
  · rw [dn_int.mp ra, dn_int.mp rb]
    exact .inl ⟨_, _, rfl, rfl, p.here S (dn_int.mpr rfl)⟩
  · rw [dn_str.mp ra, dn_str.mp rb]
    split at e
    · rename_i hc; cases e
      exact .inr (.inl ⟨_, _, rfl, rfl, cap_le hc, p.here S (dn_str.mpr rfl)⟩)
    · cases e
  · split at e
    · rename_i xs ys hc; cases e
      obtain ⟨a1, vs, rfl, h1, h2⟩ := dn_tup.mp ra
      obtain ⟨a2, us, rfl, h3, h4⟩ := dn_tup.mp rb
      refine .inr (.inr ⟨a1, a2, vs, us, rfl, rfl, S.seqT h1, S.seqT h3, by rw [h2.length, h4.length]; exact cap_le hc, fun z => ?_, fun _ z => ?_, fun _ _ q hq => ?_⟩)
      · subst z
        have e0 : xs = [] := by have := h2.length; simp at this; exact List.eq_nil_of_length_eq_zero this.symm
        subst e0
        exact p.here S (dn_tup.mpr ⟨a2, us, rfl, h3, h4⟩)
      · subst z
        have e0 : ys = [] := by have := h4.length; simp at this; exact List.eq_nil_of_length_eq_zero this.symm
        subst e0
        rw [List.append_nil] at p
        exact p.here S (dn_tup.mpr ⟨a1, vs, rfl, h1, h2⟩)
      · exact p.tup S (h2.app h4) hq
    · cases e
theorem op_subD : OpR X (binaryOp .Sub) (rD X.K fun _ => opD .Sub) := by
  refine opr_of op_sub fun x y H Q h => ?_
  obtain ⟨Hd, ρ, cs, a, b, z, S, ra, rb, e, p⟩ := h
  cases a <;> cases b <;> simp only [opD] at e <;> try cases e
  rw [dn_int.mp ra, dn_int.mp rb]
  exact ⟨_, _, rfl, rfl, p.here S (dn_int.mpr rfl)⟩
theorem op_mulD : OpR X (binaryOp .Mult) (rD X.K fun _ => opD .Mult) := by
  refine opr_of (opr_or op_mul op_mulS) fun x y H Q h => ?_
  obtain ⟨Hd, ρ, cs, a, b, z, S, ra, rb, e, p⟩ := h
  cases a <;> cases b <;> simp only [opD] at e <;> try cases e
  · split at e
    · rename_i hc; cases e
      rw [dn_int.mp ra, dn_int.mp rb]
      exact .inl ⟨_, _, rfl, rfl, hc, p.here S (dn_int.mpr rfl)⟩
    · cases e
  · split at e
    · rename_i hc; cases e
      rw [dn_str.mp ra, dn_int.mp rb]
      exact .inr ⟨_, _, rfl, rfl, hc.1, hc.2.1, hc.2.2.1, hc.2.2.2, p.here S (dn_str.mpr rfl)⟩
    · cases e
theorem op_fdivD : OpR X (binaryOp .FloorDiv) (rD X.K fun _ => opD .FloorDiv) := by
  refine opr_of op_fdivN fun x y H Q h => ?_
  obtain ⟨Hd, ρ, cs, a, b, z, S, ra, rb, e, p⟩ := h
  cases a <;> cases b <;> simp only [opD] at e <;> try cases e
  split at e
  · rename_i hc; cases e
    rw [dn_int.mp ra, dn_int.mp rb]
    exact ⟨_, _, rfl, rfl, hc, p.here S (dn_int.mpr rfl)⟩
  · cases e
theorem op_modD : OpR X (binaryOp .Mod) (rD X.K fun _ => opD .Mod) := by
  refine opr_of op_modN fun x y H Q h => ?_
  obtain ⟨Hd, ρ, cs, a, b, z, S, ra, rb, e, p⟩ := h
  cases a <;> cases b <;> simp only [opD] at e <;> try cases e
  split at e
  · rename_i hc; cases e
    rw [dn_int.mp ra, dn_int.mp rb]
    exact ⟨_, _, rfl, rfl, hc, p.here S (dn_int.mpr rfl)⟩
  · cases e
theorem op_powD : OpR X (binaryOp .Pow) (rD X.K fun _ => opD .Pow) := by
  refine opr_of op_pow fun x y H Q h => ?_
  obtain ⟨Hd, ρ, cs, a, b, z, S, ra, rb, e, p⟩ := h
  cases a <;> cases b <;> simp only [opD] at e <;> try cases e
  split at e
  · rename_i hc; cases e
    rw [dn_int.mp ra, dn_int.mp rb]
    exact ⟨_, _, rfl, rfl, hc, p.here S (dn_int.mpr rfl)⟩
  · cases e
theorem op_none {o : Operator} (h : ∀ x y : D, opD o x y = none) : OpR X (binaryOp o) (rD X.K fun _ => opD o) := fun pins s σ H x y v u Q I rx ry h' => by
  obtain ⟨_, _, _, _, _, _, _, _, _, e, _⟩ := h'
  exact absurd ((h _ _).symm.trans e) (by simp)
theorem op_D (o : Operator) : OpR X (binaryOp o) (rD X.K fun _ => opD o) := by
  cases o with
  | Add => exact op_addD
  | Sub => exact op_subD
  | Mult => exact op_mulD
  | FloorDiv => exact op_fdivD
  | Mod => exact op_modD
  | Pow => exact op_powD
  | _ => exact op_none fun x y => by cases x <;> cases y <;> rfl

def cD (o : CmpOp) : Cells → D → D → Option D := fun cs a b => match cmpD cs o a b with | some k => some (.bl k) | none => none
theorem cmp_int {o : CmpOp} {p : Int → Int → Bool} (h : OpR X (compareOp o) (rI0 fun i j => .bl (p i j))) (hp : ∀ cs a b k, cmpD cs o a b = some k → ∃ i j, a = .int i ∧ b = .int j ∧ k = p i j) : OpR X (compareOp o) (rD X.K (cD o)) := by
  refine opr_of h fun x y H Q h => ?_
  obtain ⟨Hd, ρ, cs, a, b, z, S, ra, rb, e, q⟩ := h
  unfold cD at e
  cases ek : cmpD cs o a b with
  | none => rw [ek] at e; cases e
  | some k =>
    rw [ek] at e; cases e
    obtain ⟨i, j, rfl, rfl, rfl⟩ := hp _ _ _ _ ek
    rw [dn_int.mp ra, dn_int.mp rb]
    exact ⟨_, _, rfl, rfl, q.here S (dn_bl.mpr rfl)⟩
theorem cmp_D (o : CmpOp) (hu : X.A.units + 64 < cLine) : OpR X (compareOp o) (rD X.K (cD o)) := by
  cases o with
  | Eq =>
    refine opr_of (opr_or op_eq (op_eqD hu)) fun x y H Q h => ?_
    obtain ⟨Hd, ρ, cs, a, b, z, S, ra, rb, e, q⟩ := h
    have old : eqP cs a b = some (match z with | .bl k => k | _ => false) → z = .bl (match z with | .bl k => k | _ => false) → (∃ d1 d2, Dp X.K H x d1 ∧ Dp X.K H y d2 ∧ SeqAt.shaped d1 = true ∧ SeqAt.shaped d2 = true ∧ Q (.bl (PyData.eqv d1 d2)) H) := fun e1 e2 => by
      unfold eqP at e1
      cases p1 : py cs a with
      | none => rw [p1] at e1; cases e1
      | some d1 =>
        cases p2 : py cs b with
        | none => rw [p1, p2] at e1; cases e1
        | some d2 =>
          rw [p1, p2] at e1
          simp only at e1
          split at e1
          · rename_i hs
            rw [Bool.and_eq_true] at hs
            rw [← Option.some.inj e1] at e2
            rw [e2] at q
            exact ⟨d1, d2, py_ok S p1 ra, py_ok S p2 rb, hs.1, hs.2, q.here S (dn_bl.mpr rfl)⟩
          · cases e1
    have ez : ∃ k, cmpD cs .Eq a b = some k ∧ z = .bl k := by
      unfold cD at e
      cases ek : cmpD cs .Eq a b with
      | none => rw [ek] at e; cases e
      | some k => rw [ek] at e; cases e; exact ⟨k, rfl, rfl⟩
    obtain ⟨k, ek, rfl⟩ := ez
    simp only [cmpD] at ek
    by_cases hs : (∃ i j, a = .str i ∧ b = .str j) ∨ ∃ i j, a = .int i ∧ b = .int j
    · rcases hs with ⟨i, j, rfl, rfl⟩ | ⟨i, j, rfl, rfl⟩
      · simp only [eqB] at ek; cases ek
        rw [dn_str.mp ra, dn_str.mp rb]
        exact .inl ⟨rfl, q.here S (dn_bl.mpr (by rw [dec_str]))⟩
      · simp only [eqB] at ek; cases ek
        rw [dn_int.mp ra, dn_int.mp rb]
        exact .inl ⟨rfl, q.here S (dn_bl.mpr (by rw [dec_int]))⟩
    · have ek' : eqP cs a b = some k := by
        unfold eqB at ek
        split at ek
        · rename_i i j; exact absurd (.inl ⟨_, _, rfl, rfl⟩) hs
        · exact absurd (.inr ⟨_, _, rfl, rfl⟩) hs
        · exact ek
      exact .inr (old ek' rfl)
  | NotEq =>
    refine opr_of (opr_or op_ne (op_neD hu)) fun x y H Q h => ?_
    obtain ⟨Hd, ρ, cs, a, b, z, S, ra, rb, e, q⟩ := h
    have ez : ∃ k, eqB cs a b = some k ∧ z = .bl (!k) := by
      unfold cD at e
      simp only [cmpD] at e
      cases ek : eqB cs a b with
      | none => rw [ek] at e; cases e
      | some k => rw [ek] at e; cases e; exact ⟨k, rfl, rfl⟩
    obtain ⟨k, ek, rfl⟩ := ez
    by_cases hs : (∃ i j, a = .str i ∧ b = .str j) ∨ ∃ i j, a = .int i ∧ b = .int j
    · rcases hs with ⟨i, j, rfl, rfl⟩ | ⟨i, j, rfl, rfl⟩
      · simp only [eqB] at ek; cases ek
        rw [dn_str.mp ra, dn_str.mp rb]
        exact .inl ⟨rfl, q.here S (dn_bl.mpr (by rw [dec_str]))⟩
      · simp only [eqB] at ek; cases ek
        rw [dn_int.mp ra, dn_int.mp rb]
        exact .inl ⟨rfl, q.here S (dn_bl.mpr (by rw [dec_int]))⟩
    · have ek' : eqP cs a b = some k := by
        unfold eqB at ek
        split at ek
        · exact absurd (.inl ⟨_, _, rfl, rfl⟩) hs
        · exact absurd (.inr ⟨_, _, rfl, rfl⟩) hs
        · exact ek
      unfold eqP at ek'
      cases p1 : py cs a with
      | none => rw [p1] at ek'; cases ek'
      | some d1 =>
        cases p2 : py cs b with
        | none => rw [p1, p2] at ek'; cases ek'
        | some d2 =>
          rw [p1, p2] at ek'
          simp only at ek'
          split at ek'
          · rename_i hs2
            rw [Bool.and_eq_true] at hs2
            rw [← Option.some.inj ek'] at q
            exact .inr ⟨d1, d2, py_ok S p1 ra, py_ok S p2 rb, hs2.1, hs2.2, q.here S (dn_bl.mpr rfl)⟩
          · cases ek'
  | Lt => exact cmp_int op_lt fun cs a b k h => by cases a <;> cases b <;> simp only [cmpD] at h <;> cases h; exact ⟨_, _, rfl, rfl, rfl⟩
  | LtE => exact cmp_int op_le fun cs a b k h => by cases a <;> cases b <;> simp only [cmpD] at h <;> cases h; exact ⟨_, _, rfl, rfl, rfl⟩
  | Gt => exact cmp_int op_gt fun cs a b k h => by cases a <;> cases b <;> simp only [cmpD] at h <;> cases h; exact ⟨_, _, rfl, rfl, rfl⟩
  | GtE => exact cmp_int op_ge fun cs a b k h => by cases a <;> cases b <;> simp only [cmpD] at h <;> cases h; exact ⟨_, _, rfl, rfl, rfl⟩
  | Is =>
    refine opr_of op_isN fun x y H Q h => ?_
    obtain ⟨Hd, ρ, cs, a, b, z, S, ra, rb, e, q⟩ := h
    cases b <;> simp only [cD, cmpD] at e <;> try (cases e; done)
    cases e
    rw [dn_non.mp rb]
    refine ⟨rfl, q.here S (dn_bl.mpr ?_)⟩
    cases a <;> try simp only [dn_non, dn_bl, dn_int, dn_str, dn_tup, dn_lst, dn_scr, dn_ref] at ra
    all_goals first
      | (subst ra; rfl)
      | (obtain ⟨_, _, rfl, _⟩ := ra; rfl)
      | (obtain ⟨_, rfl, _⟩ := ra; rfl)
      | (unfold Dn at ra; obtain ⟨_, _, rfl, _⟩ := ra; rfl)
      | (unfold Dn at ra; obtain ⟨_, _, _, rfl, _⟩ := ra; rfl)
      | (unfold Dn at ra; subst ra; rfl)
  | IsNot =>
    refine opr_of op_notN fun x y H Q h => ?_
    obtain ⟨Hd, ρ, cs, a, b, z, S, ra, rb, e, q⟩ := h
    cases b <;> simp only [cD, cmpD] at e <;> try (cases e; done)
    cases e
    rw [dn_non.mp rb]
    refine ⟨rfl, q.here S (dn_bl.mpr ?_)⟩
    cases a <;> try simp only [dn_non, dn_bl, dn_int, dn_str, dn_tup, dn_lst, dn_scr, dn_ref] at ra
    all_goals first
      | (subst ra; rfl)
      | (obtain ⟨_, _, rfl, _⟩ := ra; rfl)
      | (obtain ⟨_, rfl, _⟩ := ra; rfl)
      | (unfold Dn at ra; obtain ⟨_, _, rfl, _⟩ := ra; rfl)
      | (unfold Dn at ra; obtain ⟨_, _, _, rfl, _⟩ := ra; rfl)
      | (unfold Dn at ra; subst ra; rfl)
  | In =>
    refine opr_of op_in_seq fun x y H Q h => ?_
    obtain ⟨Hd, ρ, cs, a, b, z, S, ra, rb, e, q⟩ := h
    simp only [cD, cmpD] at e
    cases ei : inB cs a b with
    | none => rw [ei] at e; cases e
    | some k =>
      rw [ei] at e; cases e
      obtain ⟨p, vs, xs, rfl, hs, hx, hf, ha, hk⟩ := inB_ok S ra rb ei
      exact ⟨p, vs, rfl, hs, flat_ok ha ra, flats_ok hf hx, by rw [if_neg (by decide)]; exact q.here S (dn_bl.mpr (by rw [inV_ok ha ra hf hx, hk]))⟩
  | NotIn =>
    refine opr_of op_notIn_seq fun x y H Q h => ?_
    obtain ⟨Hd, ρ, cs, a, b, z, S, ra, rb, e, q⟩ := h
    simp only [cD, cmpD] at e
    cases ei : inB cs a b with
    | none => rw [ei] at e; cases e
    | some k =>
      rw [ei] at e; cases e
      obtain ⟨p, vs, xs, rfl, hs, hx, hf, ha, hk⟩ := inB_ok S ra rb ei
      exact ⟨p, vs, rfl, hs, flat_ok ha ra, flats_ok hf hx, by rw [if_pos rfl]; exact q.here S (dn_bl.mpr (by rw [inV_ok ha ra hf hx, hk]))⟩
where
  inB_ok {K : PySem.W.Frag} {Hd H : Hp} {ρ : List Addr} {cs : Cells} {a b : D} {x y : V} {k : Bool} (S : Sim K Hd ρ cs H) (ra : Dn K Hd ρ a x) (rb : Dn K Hd ρ b y) (e : inB cs a b = some k) :
      ∃ p vs xs, y = .ref p ∧ (SqL K H p vs ∨ SqT K H p vs) ∧ DnL K Hd ρ xs vs ∧ xs.all flatB = true ∧ flatB a = true ∧ k = xs.any fun y => eqF y a := by
    by_cases hb : ∃ xs, b = .tup xs
    · obtain ⟨xs, rfl⟩ := hb
      simp only [inB] at e
      split at e
      · rename_i hc
        rw [Bool.and_eq_true] at hc
        cases e
        obtain ⟨p, vs, e1, e2, e3⟩ := dn_tup.mp rb
        exact ⟨p, vs, xs, e1, .inr (S.seqT e2), e3, hc.2, hc.1, rfl⟩
      · cases e
    · have e' : (match seqOf cs b with
        | some xs => if (flatB a && xs.all flatB) = true then some (xs.any fun y => eqF y a) else none
        | none => none) = some k := by
        cases b with
        | tup xs => exact absurd ⟨xs, rfl⟩ hb
        | _ => exact e
      cases es : seqOf cs b with
      | none => rw [es] at e'; cases e'
      | some xs =>
        rw [es] at e'
        simp only at e'
        split at e'
        · rename_i hc
          rw [Bool.and_eq_true] at hc
          cases e'
          obtain ⟨p, vs, e1, e2, e3⟩ := seqOf_ok S es rb
          exact ⟨p, vs, xs, e1, .inl e2, e3, hc.2, hc.1, rfl⟩
        · cases e'
end
end Mc
set_option Elab.async false
set_option linter.all false
set_option maxRecDepth 100000
set_option maxHeartbeats 4000000
namespace Mc
open PySem PySem.Spec PyProof.Rows L2

/-! ### what a def leaves: its own cells are frozen -/
section
variable {K : PySem.W.Frag} {Hd Hd1 Hd2 H H1 : Hp} {ρ ρ1 : List Addr} {cs cs1 : Cells}
mutual
theorem rsv_ok (hs : Same Hd1 Hd2) {g : Nat → Option D} (hg : ∀ n d v, g n = some d → Dn K Hd1 ρ1 (.ref n) v → Dn K Hd2 ρ d v) : ∀ (d d' : D) (v : V), rsv g d = some d' → Dn K Hd1 ρ1 d v → Dn K Hd2 ρ d' v
  | .ref n, d', v, e, r => hg n d' v (by simpa only [rsv] using e) r
  | .tup xs, d', v, e, r => by
    simp only [rsv] at e
    split at e
    · rename_i ys h; cases e
      obtain ⟨a, vs, rfl, h1, h2⟩ := dn_tup.mp r
      exact dn_tup.mpr ⟨a, vs, rfl, h1.mono hs, rsvL_ok hs hg xs _ vs h h2⟩
    · cases e
  | .lst xs, d', v, e, r => by
    simp only [rsv] at e
    split at e
    · rename_i ys h; cases e
      obtain ⟨a, vs, rfl, h1, h2⟩ := dn_lst.mp r
      exact dn_lst.mpr ⟨a, vs, rfl, hs _ _ h1, rsvL_ok hs hg xs _ vs h h2⟩
    · cases e
  | .scr xs, d', v, e, r => by
    simp only [rsv] at e
    split at e
    · rename_i ys h; cases e
      obtain ⟨a, vs, rfl, h1, h2⟩ := dn_scr.mp r
      exact dn_scr.mpr ⟨a, vs, rfl, hs.seq h1, rsvL_ok hs hg xs _ vs h h2⟩
    · cases e
  | .dct ks xs, d', v, e, r => by
    simp only [rsv] at e
    split at e
    · rename_i ys h; cases e
      unfold Dn at r ⊢
      obtain ⟨a, vs, rfl, h1, h3, h2⟩ := r
      have q := rsvL_ok hs hg xs _ vs h h2
      exact ⟨a, vs, rfl, hs _ _ h1, by rw [h3, ← DnL.length h2, DnL.length q], q⟩
    · cases e
  | .obj c ns xs, d', v, e, r => by
    simp only [rsv] at e
    split at e
    · rename_i ys h; cases e
      unfold Dn at r ⊢
      obtain ⟨a, dx, vs, rfl, h1, h3, h2⟩ := r
      have q := rsvL_ok hs hg xs _ vs h h2
      exact ⟨a, dx, vs, rfl, hs _ _ h1, by rw [h3, ← DnL.length h2, DnL.length q], q⟩
    · cases e
  | .non, d', v, e, r => by simp only [rsv] at e; cases e; exact dn_non.mpr (dn_non.mp r)
  | .bl _, d', v, e, r => by simp only [rsv] at e; cases e; exact dn_bl.mpr (dn_bl.mp r)
  | .int _, d', v, e, r => by simp only [rsv] at e; cases e; exact dn_int.mpr (dn_int.mp r)
  | .str _, d', v, e, r => by simp only [rsv] at e; cases e; exact dn_str.mpr (dn_str.mp r)
  | .ty _, d', v, e, r => by simp only [rsv] at e; cases e; unfold Dn at r ⊢; exact r
theorem rsvL_ok (hs : Same Hd1 Hd2) {g : Nat → Option D} (hg : ∀ n d v, g n = some d → Dn K Hd1 ρ1 (.ref n) v → Dn K Hd2 ρ d v) : ∀ (ds ds' : List D) (vs : List V), rsvL g ds = some ds' → DnL K Hd1 ρ1 ds vs → DnL K Hd2 ρ ds' vs
  | [], ds', vs, e, r => by simp only [rsvL] at e; cases e; rw [r.of_nil]; exact DnL.nil
  | d :: ds, ds', vs, e, r => by
    simp only [rsvL] at e
    split at e
    · rename_i x ys h1 h2; cases e
      obtain ⟨v, rs, rfl, r1, r2⟩ := r.of_cons
      exact DnL.cons (rsv_ok hs hg d x v h1 r1) (rsvL_ok hs hg ds ys rs h2 r2)
    · cases e
end
/-- the cells behind n0 are frozen -/
theorem freezeAll (S0 : Sim K Hd ρ cs H) (s : Step Hd ρ H Hd1 ρ1 H1) (S : Sim K Hd1 ρ1 cs1 H1) {d d' : D} {v : V} {cs2 : Cells} (e : fin false cs.length d cs1 = some (d', cs2)) (r : Dn K Hd1 ρ1 d v) :
    ∃ Hd2, Step Hd ρ H Hd2 ρ H1 ∧ Sim K Hd2 ρ cs2 H1 ∧ Dn K Hd2 ρ d' v := by
  obtain ⟨t, et⟩ := s.ext.pre
  have n0 : ρ.length = cs.length := S0.len
  have mem : ∀ a ∈ t, ∃ n, ρ.length ≤ n ∧ ρ1[n]? = some a := fun a ha => by
    obtain ⟨j, hj⟩ := List.getElem?_of_mem ha
    exact ⟨ρ.length + j, by omega, by rw [et, List.getElem?_append_right (by omega)]; simpa using hj⟩
  have nt : ∀ a o, Hd1 a = some o → a ∉ ρ1 := fun a o h hm => by
    obtain ⟨n, hn⟩ := List.getElem?_of_mem hm
    obtain ⟨c, _, h2, _⟩ := S.at_cell hn
    rw [h] at h2; cases h2
  have hs : Same Hd1 (fun a => if a ∈ t then H1 a else Hd1 a) := fun a o h => by
    have na : a ∉ t := fun z => nt a o h (by rw [et]; exact List.mem_append_right _ z)
    simp only [if_neg na]; exact h
  have old : ∀ {n : Nat} {a : Addr}, ρ[n]? = some a → a ∉ t := fun {n a} h z => by
    have nd := S.nd
    rw [et, List.nodup_append] at nd
    exact nd.2.2 a (List.mem_of_getElem? h) a z rfl
  have hg : ∀ f n d v, rf cs1 cs.length f n = some d → Dn K Hd1 ρ1 (.ref n) v → Dn K (fun a => if a ∈ t then H1 a else Hd1 a) ρ d v := by
    intro f
    induction f with
    | zero =>
      intro n d v e r
      simp only [rf] at e
      split at e
      · rename_i hn; cases e
        obtain ⟨a, rfl, ha⟩ := dn_ref.mp r
        rw [et, List.getElem?_append_left (by omega)] at ha
        exact dn_ref.mpr ⟨a, rfl, ha⟩
      · cases e
    | succ f ih =>
      intro n d v e r
      simp only [rf] at e
      obtain ⟨a, rfl, ha⟩ := dn_ref.mp r
      split at e
      · rename_i hn; cases e
        rw [et, List.getElem?_append_left (by omega)] at ha
        exact dn_ref.mpr ⟨a, rfl, ha⟩
      · rename_i hn
        split at e
        · rename_i xs hx
          split at e
          · rename_i ys hy; cases e
            obtain ⟨_, vs, h1, h2⟩ := S.cell n a _ ha hx
            have hat : a ∈ t := by
              rw [et, List.getElem?_append_right (by omega)] at ha
              exact List.mem_of_getElem? ha
            exact dn_lst.mpr ⟨a, vs, rfl, by simp only [if_pos hat]; exact h1, rsvL_ok hs ih xs ys vs hy h2⟩
          · cases e
        · rename_i c ns xs hx
          split at e
          · rename_i ys hy; cases e
            obtain ⟨_, dx, vs, h1, h3, h2⟩ := S.cell n a _ ha hx
            have hat : a ∈ t := by
              rw [et, List.getElem?_append_right (by omega)] at ha
              exact List.mem_of_getElem? ha
            have q := rsvL_ok hs ih xs ys vs hy h2
            unfold Dn
            exact ⟨a, dx, vs, rfl, by simp only [if_pos hat]; exact h1, by rw [h3, ← DnL.length h2, DnL.length q], q⟩
          · cases e
        · cases e
  simp only [fin, Bool.false_eq_true, if_false] at e
  split at e
  · rename_i v' cs' e1 e2
    cases e
    refine ⟨_, ⟨⟨fun a o h => hs a o (s.ext.sub a o h), [], by simp⟩, fun a o h1 h2 h3 => ?_⟩, ?_, rsv_ok hs (hg 3) d d' v e1 r⟩
    · obtain ⟨q1, q2, q3⟩ := s.frame a o h1 h2 h3
      have na : a ∉ t := fun z => q2 (by rw [et]; exact List.mem_append_right _ z)
      exact ⟨by simp only [if_neg na]; exact q1, h3, q3⟩
    · have cells : ∀ (l : List Cell) (l' : List Cell), rsvC (rf cs1 cs.length 3) l = some l' → l'.length = l.length ∧ ∀ (n : Nat) (c' : Cell), l'[n]? = some c' → ∃ c : Cell, l[n]? = some c ∧ ∀ a : Addr, CellOk K Hd1 ρ1 H1 a c → CellOk K (fun a => if a ∈ t then H1 a else Hd1 a) ρ H1 a c' := by
        intro l
        induction l with
        | nil => intro l' e; simp only [rsvC] at e; cases e; exact ⟨rfl, fun n c' h => by simp at h⟩
        | cons c l ih =>
          intro l' e
          cases c with
          | lst xs =>
            simp only [rsvC] at e
            split at e
            · rename_i ys zs h1 h2; cases e
              obtain ⟨a1, a2⟩ := ih zs h2
              refine ⟨by simp [a1], fun n c' h => ?_⟩
              cases n with
              | zero =>
                simp at h; subst h
                exact ⟨_, rfl, fun a ⟨vs, q1, q2⟩ => ⟨vs, q1, rsvL_ok hs (hg 3) xs ys vs h1 q2⟩⟩
              | succ n => simpa using a2 n c' (by simpa using h)
            · cases e
          | dct ks xs =>
            simp only [rsvC] at e
            split at e
            · rename_i ys zs h1 h2; cases e
              obtain ⟨a1, a2⟩ := ih zs h2
              refine ⟨by simp [a1], fun n c' h => ?_⟩
              cases n with
              | zero =>
                simp at h; subst h
                exact ⟨_, rfl, fun a ⟨vs, q1, q0, q2⟩ => by
                  have q := rsvL_ok hs (hg 3) xs ys vs h1 q2
                  exact ⟨vs, q1, by rw [q0, ← DnL.length q2, DnL.length q], q⟩⟩
              | succ n => simpa using a2 n c' (by simpa using h)
            · cases e
          | ins cc ns xs =>
            simp only [rsvC] at e
            split at e
            · rename_i ys zs h1 h2; cases e
              obtain ⟨a1, a2⟩ := ih zs h2
              refine ⟨by simp [a1], fun n c' h => ?_⟩
              cases n with
              | zero =>
                simp at h; subst h
                exact ⟨_, rfl, fun a ⟨dx, vs, q1, q0, q2⟩ => by
                  have q := rsvL_ok hs (hg 3) xs ys vs h1 q2
                  exact ⟨dx, vs, q1, by rw [q0, ← DnL.length q2, DnL.length q], q⟩⟩
              | succ n => simpa using a2 n c' (by simpa using h)
            · cases e
      obtain ⟨l1, l2⟩ := cells _ _ e2
      have hlen : cs.length ≤ cs1.length := by
        have := S.len
        rw [et, List.length_append] at this
        omega
      refine ⟨fun a o h => ?_, ?_, S0.nd, fun n a c' h1 h2 => ?_⟩
      · by_cases ha : a ∈ t
        · simp only [if_pos ha] at h; exact h
        · simp only [if_neg ha] at h; exact S.sub _ _ h
      · rw [l1, List.length_take, Nat.min_eq_left hlen, n0]
      · obtain ⟨c, q1, q2⟩ := l2 n c' h2
        have h1' : ρ1[n]? = some a := by rw [et, List.getElem?_append_left (List.getElem?_eq_some_iff.mp h1).1]; exact h1
        have q1' : cs1[n]? = some c := by
          rw [List.getElem?_take] at q1
          split at q1
          · exact q1
          · cases q1
        obtain ⟨z1, z2⟩ := S.cell n a c h1' q1'
        exact ⟨by simp only [if_neg (old h1)]; exact z1, q2 a z2⟩
  · cases e
theorem fin_post {keep : Bool} {d d' : D} {cs2 : Cells} {Q : VK} (S0 : Sim K Hd ρ cs H) (e : fin keep cs.length d cs1 = some (d', cs2)) (q : Post K Hd ρ H cs2 d' Q) : Post K Hd ρ H cs1 d Q := fun Hd' ρ' H' v s S r => by
  cases keep with
  | true => simp only [fin, if_true] at e; cases e; exact q _ _ _ _ s S r
  | false =>
    obtain ⟨Hd2, a1, a2, a3⟩ := freezeAll S0 s S e r
    exact q _ _ _ _ a1 a2 a3
end
/-! instances -/
section
variable {K : PySem.W.Frag} {Hd H : Hp} {ρ : List Addr} {cs : Cells}
theorem insOf_ok (S : Sim K Hd ρ cs H) {d : D} {c : Addr} {ns : List Str} {ds : List D} {v : V} (h : insOf cs d = some (c, ns, ds)) (r : Dn K Hd ρ d v) : ∃ a dx us, v = .ref a ∧ H a = some (.ins c dx (ns.zip us)) ∧ ns.length = ds.length ∧ DnL K Hd ρ ds us := by
  cases d <;> simp only [insOf] at h <;> try (cases h; done)
  · cases h
    obtain ⟨a, dx, us, e1, e2, e3, e4⟩ := dn_obj.mp r
    exact ⟨a, dx, us, e1, S.sub _ _ e2, e3, e4⟩
  · split at h
    · rename_i hx; cases h
      obtain ⟨a, rfl, ha⟩ := dn_ref.mp r
      obtain ⟨_, dx, us, q1, q0, q2⟩ := S.cell _ a _ ha hx
      exact ⟨a, dx, us, rfl, q1, q0, q2⟩
    · cases h
theorem getF_ok : ∀ {ns : List Str} {ds : List D} {us : List V} {f : Str} {d : D}, getF ns ds f = some d → DnL K Hd ρ ds us → ∃ u, (ns.zip us).lookup f = some u ∧ Dn K Hd ρ d u
  | [], _, _, _, _, h, _ => by simp [getF] at h
  | n :: ns, [], _, _, _, h, _ => by simp [getF] at h
  | n :: ns, d :: ds, us, f, x, h, r => by
    obtain ⟨u, r', rfl, r1, r2⟩ := r.of_cons
    simp only [getF] at h
    split at h
    · rename_i hn; cases h
      exact ⟨u, by simp [hn, List.lookup], r1⟩
    · rename_i hn
      obtain ⟨w, h1, h2⟩ := getF_ok h r2
      refine ⟨w, ?_, h2⟩
      rw [List.zip_cons_cons, List.lookup_cons]
      rw [show (f == n) = false from by simp; exact fun z => hn z.symm]
      exact h1
theorem noF_ok {m : Str} : ∀ {ns : List Str} {us : List V}, ns.contains m = false → (ns.zip us).lookup m = none
  | [], _, _ => rfl
  | n :: ns, [], _ => rfl
  | n :: ns, u :: us, h => by
    rw [List.contains_cons, Bool.or_eq_false_iff] at h
    rw [List.zip_cons_cons, List.lookup_cons, h.1]
    exact noF_ok h.2
theorem putD_ok {d : D} {v : V} {f : Str} (rv : Dn K Hd ρ d v) : ∀ {ns : List Str} {ds : List D} {us : List V}, ns.length = ds.length → DnL K Hd ρ ds us →
    ∃ us', putF f v (ns.zip us) = (putN f ns).zip us' ∧ (putN f ns).length = (putD f d ns ds).length ∧ DnL K Hd ρ (putD f d ns ds) us'
  | [], [], us, _, r => by
    rw [r.of_nil]
    exact ⟨[v], rfl, rfl, DnL.cons rv DnL.nil⟩
  | [], _ :: _, _, h, _ => by simp at h
  | _ :: _, [], _, h, _ => by simp at h
  | n :: ns, x :: ds, us, h, r => by
    obtain ⟨u, r', rfl, r1, r2⟩ := r.of_cons
    simp only [List.zip_cons_cons, putF, putN, putD]
    by_cases hn : n = f
    · simp only [if_pos hn]
      exact ⟨v :: r', by rw [List.zip_cons_cons], by simpa using h, DnL.cons rv r2⟩
    · simp only [if_neg hn]
      obtain ⟨us', h1, h2, h3⟩ := putD_ok rv (ns := ns) (ds := ds) (by simpa using h) r2
      exact ⟨u :: us', by rw [h1, List.zip_cons_cons], by simp [h2], DnL.cons r1 h3⟩
end
end Mc
set_option Elab.async false
set_option linter.all false
set_option maxRecDepth 100000
set_option maxHeartbeats 2000000
namespace Mc
open PySem PySem.Spec PyProof.Rows L2

/-! ### defs that are called where no guard stands (so what is shown by repr is known) -/
structure FnG (P : Program) (w : World) (K : PySem.W.Frag) (mg : Str → Option Value) (base : Heap) (CX : CXT) (k : Nat) (f : Addr) (fd : FuncData) (ps : List Str) (sp : Sp) : Prop where
  arity : ∀ vs H Q E, sp vs H Q E → vs.length = ps.length
  go : ∀ {A : Around} {outer : List Env} {s : Shared} {H : Hp} {args : Args} {us : List Value} {vs : List V} {Q : VK} {E : XK},
    Room k A → A.guards = some [] → Env0 P w K mg base A outer s H → BindsTo s fd args (ps.zip us) → Vals vs us → sp vs H Q E → codeAny (model P w) A (.call (.ref f) args) (CR CX outer P w H s Q E) s
/-- a def of the text, whatever its defaults -/
structure FunX (K : PySem.W.Frag) (x qual : Str) (st : Stmt) (f : Addr) (fd : FuncData) : Prop where
  ex : ∃ (oc : Value) (od : Option Addr) (dV kV doc pm : Value) (an : Option Addr) (cdv ct : Value) (osl : Array (Option Value)),
    fd = PySem.W.fnOf x qual (defArgs st) (defBody st) (defScope st) dV kV doc pm an cdv ct ∧ K.lookup f = some ⟨oc, od, .func fd, osl⟩ ∧ PySem.W.codeIn K cdv qual = true
  kp : PySem.W.keepIn K (.ref f) = true
theorem Fun.x {K : PySem.W.Frag} {x qual : Str} {st : Stmt} {f : Addr} {fd : FuncData} (F : Fun K x qual st f fd) : FunX K x qual st f fd := by
  obtain ⟨oc, od, kV, doc, pm, an, cdv, ct, osl, h⟩ := F.ex
  exact ⟨⟨oc, od, .none, kV, doc, pm, an, cdv, ct, osl, h⟩, F.kp⟩
section
variable {P : Program} {w : World} {K : PySem.W.Frag} {mg : Str → Option Value} {base : Heap} {CX : CXT} {k : Nat} {f : Addr} {fd : FuncData} {ps : List Str} {sp : Sp}
theorem FnG.more {j : Nat} (F : FnG P w K mg base CX j f fd ps sp) (h : j ≤ k) : FnG P w K mg base CX k f fd ps sp := ⟨F.arity, fun r g e b v q => F.go (r.mono h) g e b v q⟩
/-- from the body -/
theorem FunX.okG {x qual : Str} {st : Stmt} {N : List Str} (F : FunX K x qual st f fd) (S : FnScope N ps (defScope st)) (len : ∀ vs H Q E, sp vs H Q E → vs.length = ps.length)
    (body : ∀ {cdv : Value} {A : Around} {outer : List Env} {s : Shared} {H : Hp} {vs : List V} {Q : VK} {E : XK}, A.guards = some [] → Room k (A.deeper (envOfC qual (defScope st) s.heap.objs.size f cdv)) → sp vs H Q E →
      ∃ t, PSs (cxOf CX P w K mg base N qual (defScope st) f cdv A outer s H E) (defBody st) t ∧ t { nx := fun _ H' => Q .non H', rt := Q } (start N vs) H) : FnG P w K mg base CX (k + 1) f fd ps sp := by
  obtain ⟨_, _, _, _, _, _, _, cdv, _, _, rfl, lk, hcd⟩ := F.ex
  refine ⟨len, ?_⟩
  intro A outer s H args us vs Q E hr hg e0 hb r q
  have n := len _ _ _ _ q
  have up : ∀ a o, base.get? a = some o → s.heap.get? a = some o := fun a o z => (e0.bs a o z).1
  have kin : K.In s.heap := e0.mod.kin.keeps up
  refine codeAny_call_function hr.depth (kin _ _ lk) rfl S.co S.gen rfl (PySem.W.codeRec_of kin hcd) (hb _ _ _ _ ?_)
  refine wpAny_newFunctionEnv_cells S.kind (fun y hy => (S.par y.1 (List.of_mem_zip (show (y.1, y.2) ∈ ps.zip us from hy)).1).imp id fun z => ⟨z, PySem.W.cellsFrom_some _ _ _ (.inl z)⟩) ?_
  rintro env rfl s1 x
  refine ⟨(e0.mod.nolimit.keeps up).keeps x.toInCall.keep, codeAny_func ?_⟩
  obtain ⟨t, ht, d⟩ := body (cdv := cdv) (outer := outer) (E := E) hg (hr.deeper _) q
  refine wpAny_mono (ht.run [] s1 (start N vs) H _ (inv_start S hr.hd e0 n r x) d) (fun fl s' z => ?_) fun _ _ z => z
  cases fl
  · obtain ⟨_, H', J, z⟩ := z; exact ⟨.non, H', J.os, J.bare, J.base, J.hok, rfl, z⟩
  · obtain ⟨_, _, _, z⟩ := z; exact False.elim z
  · obtain ⟨_, _, _, z⟩ := z; exact False.elim z
  · obtain ⟨v, _, H', J, rv, z⟩ := z; exact ⟨v, H', J.os, J.bare, J.base, J.hok, rv, z⟩
end
section
variable {X : Cx} {CX : CXT} {k : Nat} {f : Addr} {fd : FuncData} {ps : List Str} {sp : Sp} {E : XK} {x : Str} {p pos : Pos} {e : Expr} {es : List Expr} {t : TA}
theorem run_G {pins : List (Addr × Obj)} {σ : L2.St} {H : Hp} {s : Shared} {Q : VK} {us : List Value} {vs : List V} (F : FnG X.prog X.w X.K X.mg X.base CX k f fd ps sp) (hr : Room k X.A) (g : X.A.guards = some []) (hb : Binds X.K fd ps []) (hx : Passes CX X E)
    (I : Inv X pins σ H s) (r : Vals vs us) (h : sp vs H Q E) : wpAny (model X.prog X.w) X.A (call (.ref f) us) (EP X pins σ Q) X.xe s := by
  have n : us.length = ps.length := r.length.symm.trans (F.arity _ _ _ _ h)
  have b := hb s us I.kIn (by rw [List.append_nil]; exact n)
  rw [List.append_nil] at b
  refine wpAny_call (codeAny_mono (F.go hr g I.env0 b r h) fun o s' z => ?_)
  match o, z with
  | .error e, z => exact hx pins σ H s e s' I z
  | .ok (.ret u), z => exact I.after z
/-- a call of a def by its name -/
theorem pe_callG (F : FnG X.prog X.w X.K X.mg X.base CX k f fd ps sp) (hr : Room k X.A) (g : X.A.guards = some []) (hg : Gl X x) (hm : X.mg x = some (.ref f)) (hk : PySem.W.keepIn X.K (.ref f) = true) (hb : Binds X.K fd ps []) (hx : Passes CX X E)
    (ha : PA X (e :: es) t) (hdb : (x == ("__debug__" : Str)) = false) (he : starEach (e :: es) X.env = (false, eval e X.env) :: starEach es X.env) (hpl : (backTo pos (starEach es X.env)).any (·.1) = false) :
    PE X (.Call (.Name x p) (e :: es) [] pos) (fun σ H Q => t σ H fun vs H1 => sp vs H1 Q E) := ⟨fun pins s σ H Q I h =>
  wpAny_Call_Name_kw (ld_glob I hg hm (PySem.W.callWith_K (h₀ := X.base) I.ok.mod.kin hk (thn (ha.run pos pins s σ H _ I h) fun us s1 ⟨vs, H1, I1, r, q⟩ => ⟨I1.kIn, run_G F hr g hb hx I1 r q⟩) he hpl) hdb)⟩
end

/-! ### the law's own call -/
theorem lawG {P : Program} {w : World} {K : PySem.W.Frag} {mg mb : Str → Option Value} {CX : CXT} {k : Nat} {fa a : Addr} {fd : FuncData} {x : Str} {sp : Sp} {s : Shared} {us : List Value} {ns : List Int}
    (kin : K.In s.heap) (hns : s.heap.Ns mainGlobals mg) (hb : s.heap.Ns builtinsNs mb) (hbb : ∀ x : Str, x ≠ "__name__" → mb x = bootBuiltins x) (lim : s.heap.NoLimit) (gens : s.gens = #[])
    (ha : s.heap.get? a = some { cls := .type "list", data := .seq us.toArray }) (hi : IntsAre us ns) (hl : ns.length ≤ sizeLine) (hr : Room k callerA)
    (F : ∀ base : Heap, K.In base → base.Ns mainGlobals mg → FnG P w K mg base CX k fa fd [x] sp) (bind : ∀ (s : Shared) (u : Value), BindsTo s fd ⟨[u], []⟩ [(x, u)])
    (start : ∀ H : Hp, Only H → SqL K H a (ns.map V.int) → sp [.ref a] H (fun v _ => v = .bl true) fun _ _ _ => False)
    (quiet : ∀ H e s', CX [] H s (fun _ _ _ => False) e s' → False) :
    codeAny (model P w) callerA (.call (.ref fa) ⟨[.ref a], []⟩) (fun r s' => r = .ok (.ret (.bool true)) ∧ OldK s.heap s'.heap ∧ s'.os = s.os ∧ AllBare s'.gens) s := by
  have rv := vals_ints hi
  have n := hi.length
  have main : ∀ H : Hp, Only H → SqL K H a (ns.map V.int) → HOk P w H s.heap → (∀ b, H b ≠ none → b = a) → (H a ≠ none → K.lookup a = none) →
      codeAny (model P w) callerA (.call (.ref fa) ⟨[.ref a], []⟩) (fun r s' => r = .ok (.ret (.bool true)) ∧ OldK s.heap s'.heap ∧ s'.os = s.os ∧ AllBare s'.gens) s := by
    intro H only sq ok one ink
    have dict0 : ∀ {b : Addr} {o : Obj} {es : Array DictEntry} {ep : Nat}, s.heap.get? b = some o → o.data = .dict es ep → H b = none := fun {b o es ep} z d => by
      apply Classical.byContradiction
      intro nz
      obtain rfl := one b nz
      rw [ha] at z
      cases z
      exact nomatch d
    have ns0 : ∀ {b : Addr} {m : Str → Option Value}, s.heap.Ns b m → (hidT s.heap H).Ns b m := fun ⟨o, es, ep, z, d, r⟩ => ⟨o, es, ep, hidT_get z (dict0 z d), d, r⟩
    have kb : K.In (hidT s.heap H) := fun b o z => hidT_get (kin b o z) (Classical.byContradiction fun nz => by
      obtain rfl := one b nz
      rw [ink nz] at z
      cases z)
    obtain ⟨mc, l1, l2⟩ := lim
    have env0 : Env0 P w K mg (hidT s.heap H) callerA [] s H :=
      { frames := rfl, mod := ⟨kb, ns0 hns, ⟨mb, ns0 hb, hbb⟩, ⟨mc, ns0 l1, l2⟩⟩, bs := fun b o z => of_hidT z, bsz := Nat.le_of_eq (hidT_size _ _), funs := trivial, frf := fun b z => (List.not_mem_nil z).elim, hok := ok, bare := .of_eq gens }
    refine codeAny_mono ((F _ kb (ns0 hns)).go (us := [.ref a]) (vs := [.ref a]) hr rfl env0 (bind s (.ref a)) (.cons rfl .nil) (start H only sq)) fun r s' z => ?_
    match r, z with
    | .error e, z => exact (quiet H e s' z).elim
    | .ok (.ret u), z =>
      obtain ⟨v, H', os, bare, un, ok', ru, q⟩ := z
      cases (show v = .bl true from q)
      cases (show u = Value.bool true from ru)
      refine ⟨rfl, OldK.of_keep fun b o z => ?_, os, bare⟩
      rcases only b with y | ⟨ob, xs, y⟩
      · exact un.keep b o z y (fun y => (List.not_mem_nil y).elim) (fun y => (List.not_mem_nil y).elim)
      · obtain ⟨e1, _⟩ := ok b _ y
        obtain ⟨e2, _⟩ := ok' b _ (un.frzs b ob _ y)
        exact e2.trans (e1.symm.trans z)
  cases hk : K.lookup a with
  | some o =>
    have z := kin a o hk
    rw [ha] at z
    cases z
    exact main (fun _ => none) (fun _ => .inl rfl) (.inr ⟨_, us.toArray, _, hk, rfl, rfl, rfl, by rw [List.size_toArray, n]; exact hl, by simpa using rv⟩) (fun _ _ z => nomatch (show (none : Option HO) = some _ from z)) (fun _ z => (z rfl).elim) (fun z => (z rfl).elim)
  | none =>
    have at_ : ∀ {b : Addr} {u : HO}, (if b = a then some (HO.frz { cls := .type "list", data := .seq us.toArray } (.lst (ns.map V.int))) else none) = some u → b = a ∧ u = HO.frz { cls := .type "list", data := .seq us.toArray } (.lst (ns.map V.int)) := fun {b u} z => by
      by_cases y : b = a
      · rw [if_pos y] at z; cases z; exact ⟨y, rfl⟩
      · rw [if_neg y] at z; cases z
    refine main (fun b => if b = a then some (.frz { cls := .type "list", data := .seq us.toArray } (.lst (ns.map V.int))) else none) (fun b => ?_) (.inl (.inr ⟨_, if_pos rfl⟩)) (fun b u z => ?_) (fun b z => ?_) fun _ => hk
    · by_cases y : b = a
      · exact .inr ⟨_, _, if_pos y⟩
      · exact .inl (if_neg y)
    · obtain ⟨rfl, rfl⟩ := at_ z
      exact ⟨ha, by rw [List.length_map]; exact hl, us, _, rv, ha⟩
    · exact Classical.byContradiction fun y => z (if_neg y)
theorem walkG {l : PySem.W.OpenLaw} {n k : Nat} {q : Program} {loose : List Str} {XP : (Str → Option Value) → Heap → Prop} {YP : World → Heap → Prop} {d : DefRec} {K : Params → PySem.W.Frag} {CX : CXT} {sp : PySem.W.Frag → Sp} {x : Str}
    (hn : l.most = some n) (hn2 : n ≤ sizeLine) (hdf : d.params.defaults = []) (hr : Room k callerA) (hY : ∀ (w : World) (h : Heap), YP w h → (K w.params).In h)
    (F : ∀ (w : World) (mg : Str → Option Value) (fa : Addr) (h : Heap), (K w.params).In h → h.Ns mainGlobals mg → mg d.name = some (.ref fa) →
      ∃ fd : FuncData, (∀ (s : Shared) (u : Value), BindsTo s fd ⟨[u], []⟩ [(x, u)]) ∧ ∀ base : Heap, (K w.params).In base → base.Ns mainGlobals mg → FnG l.prog w (K w.params) mg base CX k fa fd [x] (sp (K w.params)))
    (hsp : ∀ (K : PySem.W.Frag) (H : Hp) (a : Addr) (ns : List Int), ns.length ≤ n → Only H → SqL K H a (ns.map V.int) → sp K [.ref a] H (fun v _ => v = .bl true) fun _ _ _ => False)
    (quiet : ∀ (H : Hp) (s : Shared) (e : Value) (s' : Shared), CX [] H s (fun _ _ _ => False) e s' → False) : PySem.W.WalkO q loose XP YP l.row.toRowW d [] (fun f vs => PySem.call f vs) := by
  refine Att.attach_call hn hdf ?_
  intro w _ s mg mb fa o pm cd doc a vs ns G Y _ _ _ hmg hobj hints hlen hg
  obtain ⟨fd, hb, hF⟩ := F w mg fa _ (hY w _ Y) G.T.g hmg
  exact lawG (hY w _ Y) G.T.g G.T.b G.T.builtins G.T.nolimit hg hobj hints (Nat.le_trans hlen hn2) hr hF hb (fun H hO hS => hsp _ H a ns hlen hO hS) fun H e s' => quiet H s e s'
end Mc
set_option Elab.async false
set_option linter.all false
set_option maxRecDepth 100000
set_option maxHeartbeats 2000000
namespace Mc
open PySem PySem.Spec PyProof.Rows L2

/-! ### methods, properties, new instances, keywords: of defs that are called where no guard stands -/
section
variable {X : Cx} {CX : CXT} {k n : Nat} {C f g : Addr} {fd : FuncData} {ps ks : List Str} {sp : Sp} {E : XK} {x m : Str} {p pos apos : Pos} {e o : Expr} {es : List Expr} {kws : List Keyword} {ta te : TE} {t tk : TA}
theorem make_guards {A : Around} {C : Addr} {us : List Value} {kw : List (Str × Value)} : (A.under (.builtin "type.__call__" ⟨.ref C :: us, kw⟩)).guards = A.guards := by
  first | rfl | simp [Around.under, Code.isGuard, guardIds]
theorem in1_guards {A : Around} : A.in1.guards = A.guards := rfl
/-- o.m(e, ..) -/
def tMethG (C : Addr) (m : Str) (sp : Sp) (E : XK) (ta : TE) (t : TA) : TE := fun σ H Q => ta σ H fun x H1 => ∃ a dx fs, x = .ref a ∧ H1 a = some (.ins C dx fs) ∧ fs.lookup m = none ∧
  t σ H1 fun vs H2 => sp (x :: vs) H2 Q E
theorem pe_methG {pl : Sem Bool} (he : PE X o ta) (c : Cls X.K C) (hm : Meth X.K C m f) (F : FnG X.prog X.w X.K X.mg X.base CX k f fd ps sp) (hr : Room k X.A) (hgd : X.A.guards = some []) (hb : Binds X.K fd ps []) (hx : Passes CX X E) (ha : PA X (e :: es) t)
    (hst : starEach (e :: es) X.env = (false, eval e X.env) :: starEach es X.env) (hpl : (backTo pos (starEach es X.env)).any (·.1) = false)
    (ht : eval (.Call (.Attribute o m apos) (e :: es) [] pos) X.env = (do
      let ov ← eval o X.env
      standAt apos.atName
      let (f, first) ← holding [ov] (getMethod ov m pl)
      callWith pos f first (backTo pos (starEach (e :: es) X.env)) (backToKw pos (keywordEach [] X.env)))) :
    PE X (.Call (.Attribute o m apos) (e :: es) [] pos) (tMethG C m sp E ta t) := by
  refine ⟨fun pins s σ H Q I h => ?_⟩
  refine PySem.W.methodCall_KW (pl := pl) (thn (he.run pins s σ H _ I h) fun u s1 ⟨x, H1, I1, rx, a, dx, fs, ex, ea, l, q⟩ => ?_) ht
  subst ex
  obtain rfl : u = Value.ref a := rx
  refine getmeth_ok I1 ea c hm l ?_
  refine PySem.W.callWith_K (first := [.ref a]) (h₀ := X.base) I.ok.mod.kin hm.kp (thn (ha.run pos pins s1 σ H1 _ I1 q) fun us s2 ⟨vs, H2, I2, r, q2⟩ => ⟨I2.kIn, ?_⟩) hst hpl
  exact run_G (us := .ref a :: us) (vs := .ref a :: vs) F hr hgd hb hx I2 (.cons rfl r) q2
theorem pe_meth0G {pl : Sem Bool} (he : PE X o ta) (c : Cls X.K C) (hm : Meth X.K C m f) (F : FnG X.prog X.w X.K X.mg X.base CX k f fd ps sp) (hr : Room k X.A) (hgd : X.A.guards = some []) (hb : Binds X.K fd ps []) (hx : Passes CX X E)
    (ht : eval (.Call (.Attribute o m apos) [] [] pos) X.env = (do
      let ov ← eval o X.env
      standAt apos.atName
      let (f, first) ← holding [ov] (getMethod ov m pl)
      callWith pos f first (backTo pos (starEach [] X.env)) (backToKw pos (keywordEach [] X.env)))) :
    PE X (.Call (.Attribute o m apos) [] [] pos) (tMethG C m sp E ta tNil) := by
  refine ⟨fun pins s σ H Q I h => ?_⟩
  refine PySem.W.methodCall_KW (pl := pl) (thn (he.run pins s σ H _ I h) fun u s1 ⟨x, H1, I1, rx, a, dx, fs, ex, ea, l, q⟩ => ?_) ht
  subst ex
  obtain rfl : u = Value.ref a := rx
  refine getmeth_ok I1 ea c hm l ?_
  exact PySem.W.callWith_K0 (first := [.ref a]) I1.kIn hm.kp (run_G (us := [.ref a]) (vs := [.ref a]) F hr hgd hb hx I1 (.cons rfl .nil) q)
/-- C(e, ..) -/
theorem run_makeG {pins : List (Addr × Obj)} {σ : L2.St} {H : Hp} {s : Shared} {Q : VK} {us : List Value} {vs : List V} (M : Mk X.K C f) (F : FnG X.prog X.w X.K X.mg X.base CX k f fd ps sp) (hr : Room (k + 1) X.A) (hgd : X.A.guards = some []) (hb : Binds X.K fd ps [])
    (hx : Passes CX X E) (I : Inv X pins σ H s) (r : Vals vs us)
    (h : ∀ x dx, H x = none → H dx = none → dx ≠ x → sp (.ref x :: vs) (upd (upd H dx (.own x)) x (.ins C dx [])) (fun v H2 => v = .non ∧ Q (.ref x) H2) E) :
    wpAny (model X.prog X.w) X.A (call (.ref C) us) (EP X pins σ Q) X.xe s := by
  have hq := h (s.heap.objs.size + 1) s.heap.objs.size (I.hok.fresh (Nat.le_succ _)) (I.hok.fresh (Nat.le_refl _)) (Nat.ne_of_lt (Nat.lt_succ_self _))
  have I2 := Inv.made (C := C) I
  have r2 : Vals (V.ref (s.heap.objs.size + 1) :: vs) (Value.ref (s.heap.objs.size + 1) :: us) := .cons rfl r
  have hl : ((Value.ref (s.heap.objs.size + 1) :: us) ++ []).length = ps.length := by
    have e := r2.length
    rw [F.arity _ _ _ _ hq] at e
    rw [List.append_nil]
    exact e.symm
  have b := hb _ (Value.ref (s.heap.objs.size + 1) :: us) I2.kIn hl
  rw [List.append_nil] at b
  refine wpAny_call (make_map (f := f) I.kIn M.makes M.init (beq_iff_eq.mp M.fn) (codeAny_mono (F.go (outer := X.stack) (args := ⟨Value.ref (s.heap.objs.size + 1) :: us, []⟩) (us := Value.ref (s.heap.objs.size + 1) :: us) (E := E) (hr.make C us []) (make_guards.trans hgd)
    (I2.env0.make C us []) b r2 hq) fun r s' hq' => ?_))
  cases r with
  | error e => exact hx pins σ _ _ e s' I2 hq'
  | ok fl =>
    cases fl with
    | ret u =>
      obtain ⟨v, H', I3, rv, ev, q3⟩ := I2.after hq'
      subst ev
      exact ⟨rv, ⟨V.ref (s.heap.objs.size + 1), H', I3, rfl, q3⟩⟩
    | next => exact False.elim hq'
    | brk => exact False.elim hq'
    | cont => exact False.elim hq'
def tMakeG (C : Addr) (sp : Sp) (E : XK) (t : TA) : TE := fun σ H Q => t σ H fun vs H1 => ∀ x dx, H1 x = none → H1 dx = none → dx ≠ x →
  sp (.ref x :: vs) (upd (upd H1 dx (.own x)) x (.ins C dx [])) (fun v H2 => v = .non ∧ Q (.ref x) H2) E
theorem pe_makeG (M : Mk X.K C f) (F : FnG X.prog X.w X.K X.mg X.base CX k f fd ps sp) (hr : Room (k + 1) X.A) (hgd : X.A.guards = some []) (hg : Gl X x) (hm : X.mg x = some (.ref C)) (hb : Binds X.K fd ps []) (hx : Passes CX X E)
    (ha : PA X (e :: es) t) (hdb : (x == ("__debug__" : Str)) = false) (he : starEach (e :: es) X.env = (false, eval e X.env) :: starEach es X.env) (hpl : (backTo pos (starEach es X.env)).any (·.1) = false) :
    PE X (.Call (.Name x p) (e :: es) [] pos) (tMakeG C sp E t) := by
  refine ⟨fun pins s σ H Q I h => ?_⟩
  refine wpAny_Call_Name_kw (ld_glob I hg hm ?_ hdb)
  refine PySem.W.callWith_K (h₀ := X.base) I.ok.mod.kin M.kp (thn (ha.run pos pins s σ H _ I h) fun us s1 ⟨vs, H1, I1, r, q⟩ => ⟨I1.kIn, ?_⟩) he hpl
  exact run_makeG M F hr hgd hb hx I1 r q
/-- e.f, a property -/
def tPropG (C : Addr) (sp : Sp) (E : XK) (ta : TE) : TE := fun σ H Q => ta σ H fun x H1 => ∃ a dx fs, x = .ref a ∧ H1 a = some (.ins C dx fs) ∧ sp [.ref a] H1 Q E
theorem getpropG {f : Str} {a dx : Addr} {fs : List (Str × V)} {pp : Addr} {pins : List (Addr × Obj)} {σ : L2.St} {H : Hp} {s : Shared} {Q : VK} {b : Bool} {E' : Value → Shared → Prop} (I : Inv X pins σ H s) (ea : H a = some (.ins C dx fs)) (c : Cls X.K C) (hp : PropOf X.K C f pp g)
    (F : FnG X.prog X.w X.K X.mg X.base CX k g fd ps sp) (hr : Room (k + 1) X.A) (hgd : X.A.guards = some []) (hb : Binds X.K fd ps []) (hx : Passes CX X.nox E) (h : sp [.ref a] H Q E) :
    wpAny (model X.prog X.w) X.A (getAttr (.ref a) f b) (EP X pins σ Q) E' s := by
  obtain ⟨mA, O, _, _, _, _⟩ := ins_get I.hok ea
  obtain ⟨od, J, _⟩ := O.look
  obtain ⟨rest, hrec⟩ := hp.rec_
  have I1 := I.tok (s.toks + 1)
  have hl : ([Value.ref a] ++ []).length = ps.length := by
    have z := F.arity _ _ _ _ h
    simpa using z
  have b1 := hb { s with toks := s.toks + 1 } [.ref a] I1.kIn hl
  have hc : (PySem.W.clsIn X.K C).isSome = true := by
    obtain ⟨cd, hc, _⟩ := PySem.W.any_some c.hd
    rw [hc]
    rfl
  refine PySem.W.get_bind I.kIn J (PySem.W.plainGet_of (c.get f)).1 (PySem.W.findObj_data hc hp.at_ hp.get hp.tak) (PySem.W.plainGet_of (c.get f)).2 (wpAny_call (PySem.W.prop_get (s := { s with toks := s.toks + 1 }) I.kIn hrec ?_))
  refine codeAny_mono (F.go (outer := X.stack) (args := ⟨[.ref a], []⟩) (us := [.ref a]) (vs := [V.ref a]) (E := E) hr.in1 hgd I1.env0.in1 b1 (.cons rfl .nil) h) fun r s' hq => ?_
  cases r with
  | error er => exact False.elim (hx pins σ H { s with toks := s.toks + 1 } er s' (I1.wish _) hq)
  | ok fl =>
    cases fl with
    | ret u =>
      obtain ⟨v, H', I3, rv, q3⟩ := I1.after hq
      show wpAny _ _ (handedOut u) _ _ _
      rw [PySem.W.handedOut_of (handed_of rv)]
      exact wpAny_pure ⟨v, H', I3, rv, q3⟩
    | next => exact False.elim hq
    | brk => exact False.elim hq
    | cont => exact False.elim hq
theorem pe_propG {f : Str} {pp : Addr} (he : PE X e ta) (c : Cls X.K C) (hp : PropOf X.K C f pp g) (F : FnG X.prog X.w X.K X.mg X.base CX k g fd ps sp) (hr : Room (k + 1) X.A) (hgd : X.A.guards = some []) (hb : Binds X.K fd ps []) (hx : Passes CX X.nox E)
    (hab : attributeBase e f X.env (eval e X.env) = eval e X.env) : PE X (.Attribute e f pos) (tPropG C sp E ta) := by
  refine ⟨fun pins s σ H Q I h => ?_⟩
  refine attr_of hab (thn (he.run pins s σ H _ I h) fun u s1 ⟨x, H1, I1, rx, a, dx, fs, ex, ea, q⟩ => ?_)
  subst ex
  obtain rfl : u = Value.ref a := rx
  exact getpropG I1 ea c hp F hr hgd hb hx q
/-! keywords -/
theorem run_GN {pins : List (Addr × Obj)} {σ : L2.St} {H : Hp} {s : Shared} {Q : VK} {us ws : List Value} {vs zs : List V} {gg : List Value → List Value → List Value} {gV : List V → List V → List V} (F : FnG X.prog X.w X.K X.mg X.base CX k f fd ps sp) (hr : Room k X.A) (hgd : X.A.guards = some [])
    (hb : KBn X.K fd ps n ks gg gV) (hx : Passes CX X E) (I : Inv X pins σ H s) (r : Vals vs us) (rz : Vals zs ws) (l1 : vs.length = n) (l2 : zs.length = ks.length) (h : sp (gV vs zs) H Q E) :
    wpAny (model X.prog X.w) X.A (call (.ref f) us (ks.zip ws)) (EP X pins σ Q) X.xe s := by
  have r2 := hb.rel r rz
  refine wpAny_call (codeAny_mono (F.go (outer := X.stack) (args := ⟨us, ks.zip ws⟩) (us := gg us ws) (E := E) hr hgd I.env0 (hb.to s us ws I.kIn (r.length.symm.trans l1) (rz.length.symm.trans l2)) r2 h) fun r s' hq => ?_)
  cases r with
  | error e => exact hx pins σ H s e s' I hq
  | ok fl =>
    cases fl with
    | ret u => exact I.after hq
    | next => exact False.elim hq
    | brk => exact False.elim hq
    | cont => exact False.elim hq
/-! calls with keywords -/
def kwN : Keyword → Option Str | ⟨n, _, _⟩ => n
def kwV : Keyword → Expr | ⟨_, v, _⟩ => v
theorem kw_all {env : PySem.Env} : ∀ kws : List Keyword, (backToKw pos (keywordEach kws env)).all (·.1.isSome) = kws.all fun k => (kwN k).isSome
  | [] => rfl
  | ⟨n, v, _⟩ :: r => by
    have ih := kw_all (env := env) r
    unfold keywordEach backToKw
    rw [List.map_cons, List.all_cons, List.all_cons]
    show (n.isSome && ((keywordEach r env).map _).all _) = (n.isSome && _)
    congr 1
theorem kw_any {env : PySem.Env} : ∀ kws : List Keyword, (kws.all fun k => (kwN k).isSome) = true → (backToKw pos (keywordEach kws env)).any (·.1.isNone) = false
  | [], _ => rfl
  | ⟨n, v, _⟩ :: r, h => by
    rw [List.all_cons, Bool.and_eq_true] at h
    have ih := kw_any (env := env) r h.2
    unfold keywordEach backToKw
    rw [List.map_cons, List.any_cons]
    have h1 : n.isSome = true := h.1
    show (n.isNone || ((keywordEach r env).map _).any _) = false
    rw [Bool.or_eq_false_iff]
    refine ⟨?_, ih⟩
    cases n <;> first | rfl | cases h1
theorem kw_ks {env : PySem.Env} : ∀ kws : List Keyword, (backToKw pos (keywordEach kws env)).filterMap (·.1) = kws.filterMap kwN
  | [] => rfl
  | ⟨n, v, _⟩ :: r => by
    have ih := kw_ks (env := env) r
    unfold keywordEach backToKw
    rw [List.map_cons, List.filterMap_cons, List.filterMap_cons]
    have ih' : ((keywordEach r env).map fun (name, t) => (name, do let v ← t; standAt pos; pure v)).filterMap (·.1) = r.filterMap kwN := ih
    cases n with
    | none => exact ih'
    | some y => exact congrArg (List.cons y) ih'
theorem argsK {kws : List Keyword} {es : List Expr} {fv : Value} {first : List Value} {pins : List (Addr × Obj)} {σ : L2.St} {H : Hp} {s : Shared} {Q : VK} {R : List V → List V → Hp → Prop} (hk : PySem.W.keepIn X.K fv = true) (ha : PA X es t) (hn : es = [] → ∀ σ H Q, t σ H Q → Q [] H)
    (hst : ∀ e r, es = e :: r → starEach (e :: r) X.env = (false, eval e X.env) :: starEach r X.env) (hpl : (backTo pos (starEach es X.env)).any (·.1) = false) (hkw : PK X kws tk) (hall : (kws.all fun k => (kwN k).isSome) = true)
    (I : Inv X pins σ H s) (h : t σ H fun vs H1 => tk σ H1 fun zs H2 => R vs zs H2)
    (go : ∀ us ws s2 H2 vs zs, Inv X pins σ H2 s2 → Vals vs us → Vals zs ws → R vs zs H2 → wpAny (model X.prog X.w) X.A (call fv (first ++ us) ((kws.filterMap kwN).zip ws)) (EP X pins σ Q) X.xe s2) :
    wpAny (model X.prog X.w) X.A (callWith pos fv first (backTo pos (starEach es X.env)) (backToKw pos (keywordEach kws X.env))) (EP X pins σ Q) X.xe s := by
  have p1 : ((backTo pos (starEach es X.env)).any (·.1) || (backToKw pos (keywordEach kws X.env)).any (·.1.isNone)) = false := by rw [hpl, kw_any kws hall]; rfl
  have p2 : (backToKw pos (keywordEach kws X.env)).all (·.1.isSome) = true := (kw_all kws).trans hall
  cases es with
  | nil =>
    refine PySem.W.callWith_KW0 (h₀ := X.base) I.ok.mod.kin hk p2 (thn (hkw.run pos pins s σ H _ I (hn rfl _ _ _ h)) fun ws s2 ⟨zs, H2, I2, rz, q2⟩ => ⟨I2.kIn, ?_⟩) p1
    rw [kw_ks]
    exact go [] ws s2 H2 [] zs I2 .nil rz q2
  | cons e es =>
    refine PySem.W.callWith_KW (h₀ := X.base) I.ok.mod.kin hk p2 (thn (ha.run pos pins s σ H _ I h) fun us s1 ⟨vs, H1, I1, r, q⟩ => ?_) p1 (hst e es rfl)
    refine thn (hkw.run pos pins s1 σ H1 _ I1 q) fun ws s2 ⟨zs, H2, I2, rz, q2⟩ => ⟨I2.kIn, ?_⟩
    rw [kw_ks]
    exact go us ws s2 H2 vs zs I2 r rz q2
variable {gg : List Value → List Value → List Value} {gV : List V → List V → List V}
def tCallKG (n m : Nat) (sp : Sp) (gV : List V → List V → List V) (E : XK) (t tk : TA) : TE := fun σ H Q => t σ H fun vs H1 => tk σ H1 fun zs H2 => vs.length = n ∧ zs.length = m ∧ sp (gV vs zs) H2 Q E
theorem pe_callKG (F : FnG X.prog X.w X.K X.mg X.base CX k f fd ps sp) (hr : Room k X.A) (hgd : X.A.guards = some []) (hg : Gl X x) (hm : X.mg x = some (.ref f)) (hk : PySem.W.keepIn X.K (.ref f) = true) (hb : KBn X.K fd ps n ks gg gV) (hx : Passes CX X E)
    (ha : PA X es t) (hn : es = [] → ∀ σ H Q, t σ H Q → Q [] H) (hst : ∀ e r, es = e :: r → starEach (e :: r) X.env = (false, eval e X.env) :: starEach r X.env) (hpl : (backTo pos (starEach es X.env)).any (·.1) = false) (hkw : PK X kws tk) (hall : (kws.all fun k => (kwN k).isSome) = true)
    (hks : kws.filterMap kwN = ks) (hdb : (x == ("__debug__" : Str)) = false) : PE X (.Call (.Name x p) es kws pos) (tCallKG n ks.length sp gV E t tk) := by
  refine ⟨fun pins s σ H Q I h => ?_⟩
  refine wpAny_Call_Name_kw (ld_glob I hg hm ?_ hdb)
  refine argsK (first := []) hk ha hn hst hpl hkw hall I h fun us ws s2 H2 vs zs I2 r rz ⟨l1, l2, q⟩ => ?_
  rw [hks]
  exact run_GN F hr hgd hb hx I2 r rz l1 l2 q
def tMethKG (C : Addr) (m : Str) (n j : Nat) (sp : Sp) (gV : List V → List V → List V) (E : XK) (ta : TE) (t tk : TA) : TE := fun σ H Q => ta σ H fun x H1 => ∃ a dx fs, x = .ref a ∧ H1 a = some (.ins C dx fs) ∧ fs.lookup m = none ∧
  t σ H1 fun vs H2 => tk σ H2 fun zs H3 => vs.length + 1 = n ∧ zs.length = j ∧ sp (gV (x :: vs) zs) H3 Q E
theorem pe_methKG {pl : Sem Bool} (he : PE X o ta) (c : Cls X.K C) (hm : Meth X.K C m f) (F : FnG X.prog X.w X.K X.mg X.base CX k f fd ps sp) (hr : Room k X.A) (hgd : X.A.guards = some []) (hb : KBn X.K fd ps n ks gg gV) (hx : Passes CX X E)
    (ha : PA X es t) (hn : es = [] → ∀ σ H Q, t σ H Q → Q [] H) (hst : ∀ e r, es = e :: r → starEach (e :: r) X.env = (false, eval e X.env) :: starEach r X.env) (hpl : (backTo pos (starEach es X.env)).any (·.1) = false) (hkw : PK X kws tk) (hall : (kws.all fun k => (kwN k).isSome) = true)
    (hks : kws.filterMap kwN = ks)
    (ht : eval (.Call (.Attribute o m apos) es kws pos) X.env = (do
      let ov ← eval o X.env
      standAt apos.atName
      let (f, first) ← holding [ov] (getMethod ov m pl)
      callWith pos f first (backTo pos (starEach es X.env)) (backToKw pos (keywordEach kws X.env)))) :
    PE X (.Call (.Attribute o m apos) es kws pos) (tMethKG C m n ks.length sp gV E ta t tk) := by
  refine ⟨fun pins s σ H Q I h => ?_⟩
  refine PySem.W.methodCall_KW (pl := pl) (thn (he.run pins s σ H _ I h) fun u s1 ⟨x, H1, I1, rx, a, dx, fs, ex, ea, l, q⟩ => ?_) ht
  subst ex
  obtain rfl : u = Value.ref a := rx
  refine getmeth_ok I1 ea c hm l ?_
  refine argsK (first := [.ref a]) hm.kp ha hn hst hpl hkw hall I1 q fun us ws s2 H2 vs zs I2 r rz ⟨l1, l2, q⟩ => ?_
  rw [hks]
  exact run_GN (us := .ref a :: us) (vs := .ref a :: vs) F hr hgd hb hx I2 (.cons rfl r) rz l1 l2 q
theorem run_makeGN {pins : List (Addr × Obj)} {σ : L2.St} {H : Hp} {s : Shared} {Q : VK} {us ws : List Value} {vs zs : List V} (M : Mk X.K C f) (F : FnG X.prog X.w X.K X.mg X.base CX k f fd ps sp) (hr : Room (k + 1) X.A) (hgd : X.A.guards = some []) (hb : KBn X.K fd ps n ks gg gV)
    (hx : Passes CX X E) (I : Inv X pins σ H s) (r : Vals vs us) (rz : Vals zs ws) (l1 : vs.length + 1 = n) (l2 : zs.length = ks.length)
    (h : ∀ x dx, H x = none → H dx = none → dx ≠ x → sp (gV (.ref x :: vs) zs) (upd (upd H dx (.own x)) x (.ins C dx [])) (fun v H2 => v = .non ∧ Q (.ref x) H2) E) :
    wpAny (model X.prog X.w) X.A (call (.ref C) us (ks.zip ws)) (EP X pins σ Q) X.xe s := by
  have hq := h (s.heap.objs.size + 1) s.heap.objs.size (I.hok.fresh (Nat.le_succ _)) (I.hok.fresh (Nat.le_refl _)) (Nat.ne_of_lt (Nat.lt_succ_self _))
  have I2 := Inv.made (C := C) I
  have r1 : Vals (V.ref (s.heap.objs.size + 1) :: vs) (Value.ref (s.heap.objs.size + 1) :: us) := .cons rfl r
  have r2 := hb.rel r1 rz
  have e1 : (Value.ref (s.heap.objs.size + 1) :: us).length = n := r1.length.symm.trans l1
  have e2 : ws.length = ks.length := rz.length.symm.trans l2
  refine wpAny_call (make_map (f := f) I.kIn M.makes M.init (beq_iff_eq.mp M.fn) (codeAny_mono (F.go (outer := X.stack) (args := ⟨Value.ref (s.heap.objs.size + 1) :: us, ks.zip ws⟩) (us := gg (Value.ref (s.heap.objs.size + 1) :: us) ws) (E := E) (hr.make C us (ks.zip ws)) (make_guards.trans hgd)
    (I2.env0.make C us (ks.zip ws)) (hb.to _ (Value.ref (s.heap.objs.size + 1) :: us) ws I2.kIn e1 e2) r2 hq) fun r s' hq' => ?_))
  cases r with
  | error e => exact hx pins σ _ _ e s' I2 hq'
  | ok fl =>
    cases fl with
    | ret u =>
      obtain ⟨v, H', I3, rv, ev, q3⟩ := I2.after hq'
      subst ev
      exact ⟨rv, ⟨V.ref (s.heap.objs.size + 1), H', I3, rfl, q3⟩⟩
    | next => exact False.elim hq'
    | brk => exact False.elim hq'
    | cont => exact False.elim hq'
def tMakeKG (C : Addr) (n j : Nat) (sp : Sp) (gV : List V → List V → List V) (E : XK) (t tk : TA) : TE := fun σ H Q => t σ H fun vs H1 => tk σ H1 fun zs H2 => vs.length + 1 = n ∧ zs.length = j ∧ ∀ x dx, H2 x = none → H2 dx = none → dx ≠ x →
  sp (gV (.ref x :: vs) zs) (upd (upd H2 dx (.own x)) x (.ins C dx [])) (fun v H3 => v = .non ∧ Q (.ref x) H3) E
theorem pe_makeKG (M : Mk X.K C f) (F : FnG X.prog X.w X.K X.mg X.base CX k f fd ps sp) (hr : Room (k + 1) X.A) (hgd : X.A.guards = some []) (hg : Gl X x) (hm : X.mg x = some (.ref C)) (hb : KBn X.K fd ps n ks gg gV) (hx : Passes CX X E)
    (ha : PA X es t) (hn : es = [] → ∀ σ H Q, t σ H Q → Q [] H) (hst : ∀ e r, es = e :: r → starEach (e :: r) X.env = (false, eval e X.env) :: starEach r X.env) (hpl : (backTo pos (starEach es X.env)).any (·.1) = false) (hkw : PK X kws tk) (hall : (kws.all fun k => (kwN k).isSome) = true)
    (hks : kws.filterMap kwN = ks) (hdb : (x == ("__debug__" : Str)) = false) : PE X (.Call (.Name x p) es kws pos) (tMakeKG C n ks.length sp gV E t tk) := by
  refine ⟨fun pins s σ H Q I h => ?_⟩
  refine wpAny_Call_Name_kw (ld_glob I hg hm ?_ hdb)
  refine argsK (first := []) M.kp ha hn hst hpl hkw hall I h fun us ws s2 H2 vs zs I2 r rz ⟨l1, l2, q⟩ => ?_
  rw [hks]
  exact run_makeGN M F hr hgd hb hx I2 r rz l1 l2 q
end
end Mc
set_option Elab.async false
set_option linter.all false
set_option maxRecDepth 100000
set_option maxHeartbeats 2000000
namespace Mc
open PySem PySem.Spec PyProof.Rows L2

/-! ### len, ==, repr by a class's own defs -/
section
variable {X : Cx} {CX : CXT} {k : Nat} {C f : Addr} {fd : FuncData} {ps : List Str} {sp : Sp} {E : XK}
/-- a def, somewhere below the running body, where no guard stands -/
theorem run_below {A : Around} {pins : List (Addr × Obj)} {σ : L2.St} {H : Hp} {s : Shared} {R : Value → Shared → Prop} {Q : VK} {us : List Value} {vs : List V} (F : FnG X.prog X.w X.K X.mg X.base CX k f fd ps sp) (hr : Room k A) (hg : A.guards = some []) (hf : A.frames = X.A.frames)
    (hb : Binds X.K fd ps []) (hx : Passes CX X E) (I : Inv X pins σ H s) (r : Vals vs us) (h : sp vs H Q E) (out : ∀ u s' v H', Inv X pins σ H' s' → RelV v u → Q v H' → R u s') :
    wpAny (model X.prog X.w) A (call (.ref f) us) R X.xe s := by
  have n : us.length = ps.length := r.length.symm.trans (F.arity _ _ _ _ h)
  have b := hb s us I.kIn (by rw [List.append_nil]; exact n)
  rw [List.append_nil] at b
  have e0 : Env0 X.prog X.w X.K X.mg X.base A X.stack s H := by
    have e := I.env0
    exact ⟨by rw [hf]; exact e.frames, e.mod, e.bs, e.bsz, e.funs, e.frf, e.hok, e.bare⟩
  refine wpAny_call (codeAny_mono (F.go hr hg e0 b r h) fun o s' z => ?_)
  match o, z with
  | .error e, z => exact hx pins σ H s e s' I z
  | .ok (.ret u), z =>
    obtain ⟨v, H', I', rv, q⟩ := I.after z
    exact out u s' v H' I' rv q
theorem call_lenO (F : FnG X.prog X.w X.K X.mg X.base CX k f fd ps sp) (hm : Meth X.K C "__len__" f) (hr : Room (k + 1) X.A) (hg : X.A.guards = some []) (hb : Binds X.K fd ps []) (hx : Passes CX X E) :
    CallR X (.builtin "len") (fun xs H Q => ∃ a dx fs, xs = [.ref a] ∧ H a = some (.ins C dx fs) ∧ sp [.ref a] H (fun v H2 => ∃ n : Int, v = .int n ∧ 0 ≤ n ∧ n < 2 ^ 63 ∧ Q (.int n) H2) E) := by
  intro pins s σ H xs us Q I r h
  obtain ⟨a, dx, fs, rfl, ea, q⟩ := h
  cases r with
  | cons r1 r2 =>
    cases r2
    cases r1
    obtain ⟨mA, O, _, _, _, _⟩ := ins_get I.hok ea
    obtain ⟨od, J, _⟩ := O.look
    obtain ⟨m, hF⟩ := I.fr
    refine PySem.W.len_K hF I.ok.mod.kin J hm.at_ hm.fn ?_
    refine run_below (vs := [V.ref a]) F hr.in1 hg rfl hb hx I (.cons rfl .nil) q fun u s' v H' I' rv z => ?_
    obtain ⟨n, rfl, h0, h1, z⟩ := z
    obtain ⟨t, rfl⟩ := (show ∃ t, u = Value.int n t from rv)
    exact ⟨⟨h0, h1⟩, .int n, H', I'.tok _, ⟨_, rfl⟩, z⟩
theorem call_reprO (F : FnG X.prog X.w X.K X.mg X.base CX k f fd ps sp) (hm : Meth X.K C "__repr__" f) (hr : Room (k + 1) X.A) (hg : X.A.guards = some []) (hb : Binds X.K fd ps []) (hx : Passes CX X E) :
    CallR X (.builtin "repr") (fun xs H Q => ∃ a dx fs, xs = [.ref a] ∧ H a = some (.ins C dx fs) ∧ sp [.ref a] H (fun v H2 => ∃ n : Str, v = .str n ∧ Q (.str n) H2) E) := by
  intro pins s σ H xs us Q I r h
  obtain ⟨a, dx, fs, rfl, ea, q⟩ := h
  cases r with
  | cons r1 r2 =>
    cases r2
    cases r1
    obtain ⟨mA, O, _, _, _, _⟩ := ins_get I.hok ea
    obtain ⟨od, J, _⟩ := O.look
    obtain ⟨m, hF⟩ := I.fr
    refine PySem.W.repr_K hr.in1.units0 hF I.ok.mod.kin J hm.at_ hm.fn ?_
    refine run_below (vs := [V.ref a]) F hr.in1 hg rfl hb hx I (.cons rfl .nil) q fun u s' v H' I' rv z => ?_
    obtain ⟨n, rfl, z⟩ := z
    obtain ⟨t, rfl⟩ := (show ∃ t, u = Value.str n t from rv)
    exact ⟨.str n, H', I', ⟨_, rfl⟩, z⟩
theorem op_eqO (F : FnG X.prog X.w X.K X.mg X.base CX k f fd ps sp) (hm : Meth X.K C "__eq__" f) (hr : Room k X.A) (hg : X.A.guards = some []) (hb : Binds X.K fd ps []) (hx : Passes CX X E) :
    OpR X (compareOp .Eq) (fun x y H Q => ∃ a b dx dy fs gs, x = .ref a ∧ y = .ref b ∧ H a = some (.ins C dx fs) ∧ H b = some (.ins C dy gs) ∧ sp [.ref a, .ref b] H (fun v H2 => ∃ c, v = .bl c ∧ Q (.bl c) H2) E) := by
  intro pins s σ H x y v u Q I rx ry h
  obtain ⟨a, b, dx, dy, fs, gs, rfl, rfl, ha, hb', q⟩ := h
  cases rx
  cases ry
  obtain ⟨mA, J, _⟩ := ins_get I.hok ha
  obtain ⟨mB, J', _⟩ := ins_get I.hok hb'
  obtain ⟨od, J, _⟩ := J.look
  obtain ⟨od', J', _⟩ := J'.look
  obtain ⟨m, hF⟩ := I.fr
  refine PySem.W.cmp_K (op := .Eq) (tb := .ref C) hr.units0 hF I.ok.mod.kin J J'.type (by simp [PySem.W.notFirst]) hm.at_ hm.fn ?_
  refine run_below (vs := [V.ref a, V.ref b]) F hr hg rfl hb hx I (.cons rfl (.cons rfl .nil)) q fun u s' v H' I' rv z => ?_
  obtain ⟨c, rfl, z⟩ := z
  cases rv
  exact ⟨.bl c, H', I', rfl, z⟩
end
end Mc
set_option Elab.async false
set_option linter.all false
set_option maxRecDepth 100000
set_option maxHeartbeats 2000000
namespace Mc
open PySem PySem.Spec PyProof.Rows L2

section
variable {X : Cx}
theorem callr_of {f : Value} {r r' : List V → Hp → VK → Prop} (h : CallR X f r) (i : ∀ xs H Q, r' xs H Q → r xs H Q) : CallR X f r' := fun pins s σ H xs us Q I rs q => h pins s σ H xs us Q I rs (i _ _ _ q)
/-- a built-in function by data -/
def rBi (K : PySem.W.Frag) (b : Bi) : List V → Hp → VK → Prop := fun vs H Q => ∃ Hd ρ cs ds z, Sim K Hd ρ cs H ∧ DnL K Hd ρ ds vs ∧ biD cs b ds = some z ∧ Post K Hd ρ H cs z Q
theorem dnl1 {K : PySem.W.Frag} {H : Hp} {ρ : List Addr} {d : D} {vs : List V} (h : DnL K H ρ [d] vs) : ∃ v, vs = [v] ∧ Dn K H ρ d v := by
  obtain ⟨v, r, rfl, h1, h2⟩ := h.of_cons
  rw [h2.of_nil]; exact ⟨v, rfl, h1⟩
theorem dnl2 {K : PySem.W.Frag} {H : Hp} {ρ : List Addr} {d e : D} {vs : List V} (h : DnL K H ρ [d, e] vs) : ∃ v u, vs = [v, u] ∧ Dn K H ρ d v ∧ Dn K H ρ e u := by
  obtain ⟨v, r, rfl, h1, h2⟩ := h.of_cons
  obtain ⟨u, rfl, h3⟩ := dnl1 h2
  exact ⟨v, u, rfl, h1, h3⟩
theorem bi_arity {cs : Cells} {b : Bi} {ds : List D} {z : D} (h : biD cs b ds = some z) : (∃ d, ds = [d]) ∨ ∃ d e, ds = [d, e] := by
  match ds with
  | [] => cases b <;> simp [biD] at h
  | [d] => exact .inl ⟨d, rfl⟩
  | [d, e] => exact .inr ⟨d, e, rfl⟩
  | d :: e :: f :: r => cases b <;> simp [biD] at h
theorem bi_len : CallR X (.builtin "len") (rBi X.K .len) := by
  refine callr_of call_len fun vs H Q h => ?_
  obtain ⟨Hd, ρ, cs, ds, z, S, r, e, p⟩ := h
  rcases bi_arity e with ⟨d, rfl⟩ | ⟨d, d', rfl⟩
  · obtain ⟨v, rfl, r1⟩ := dnl1 r
    cases d with
    | str x =>
      simp only [biD] at e
      split at e
      · rename_i hc; cases e
        rw [dn_str.mp r1]
        exact ⟨_, x.length, rfl, ⟨cap_le hc, rfl⟩, p.here S (dn_int.mpr rfl)⟩
      · cases e
    | tup xs =>
      simp only [biD] at e; cases e
      obtain ⟨a, us, rfl, h1, h2⟩ := dn_tup.mp r1
      exact ⟨_, _, rfl, .inr ⟨us, S.seqT h1, rfl⟩, p.here S (dn_int.mpr (by rw [h2.length]))⟩
    | non | bl _ | int _ | dct _ _ | obj _ _ _ | ty _ => simp [biD, seqOf] at e
    | lst ys =>
      simp only [biD, seqOf] at e; cases e
      obtain ⟨a, us, rfl, h1, h2⟩ := seqOf_ok S (d := .lst ys) rfl r1
      exact ⟨_, _, rfl, .inl ⟨us, h1, rfl⟩, p.here S (dn_int.mpr (by rw [h2.length]))⟩
    | scr ys =>
      simp only [biD, seqOf] at e; cases e
      obtain ⟨a, us, rfl, h1, h2⟩ := seqOf_ok S (d := .scr ys) rfl r1
      exact ⟨_, _, rfl, .inl ⟨us, h1, rfl⟩, p.here S (dn_int.mpr (by rw [h2.length]))⟩
    | ref n =>
      simp only [biD] at e
      cases es : seqOf cs (.ref n) with
      | none => rw [es] at e; cases e
      | some xs =>
        rw [es] at e; cases e
        obtain ⟨a, us, rfl, h1, h2⟩ := seqOf_ok S es r1
        exact ⟨_, _, rfl, .inl ⟨us, h1, rfl⟩, p.here S (dn_int.mpr (by rw [h2.length]))⟩
  · simp [biD] at e
theorem bi_abs : CallR X (.builtin "abs") (rBi X.K .abs) := by
  refine callr_of call_abs fun vs H Q h => ?_
  obtain ⟨Hd, ρ, cs, ds, z, S, r, e, p⟩ := h
  rcases bi_arity e with ⟨d, rfl⟩ | ⟨d, d', rfl⟩
  · obtain ⟨v, rfl, r1⟩ := dnl1 r
    cases d <;> simp only [biD] at e <;> cases e
    rw [dn_int.mp r1]
    exact ⟨_, rfl, p.here S (dn_int.mpr rfl)⟩
  · simp [biD] at e
theorem bi_two {f : Value} {b : Bi} {g : Int → Int → Int} (h : CallR X f (fun xs H Q => ∃ i j, xs = [.int i, .int j] ∧ Q (.int (g i j)) H)) (hb : ∀ cs ds z, biD cs b ds = some z → ∃ i j, ds = [.int i, .int j] ∧ z = .int (g i j)) : CallR X f (rBi X.K b) := by
  refine callr_of h fun vs H Q h => ?_
  obtain ⟨Hd, ρ, cs, ds, z, S, r, e, p⟩ := h
  obtain ⟨i, j, rfl, rfl⟩ := hb _ _ _ e
  obtain ⟨v, u, rfl, r1, r2⟩ := dnl2 r
  rw [dn_int.mp r1, dn_int.mp r2]
  exact ⟨i, j, rfl, p.here S (dn_int.mpr rfl)⟩
theorem bi_max (hc : X.calm = true) : CallR X (.builtin "max") (rBi X.K .max2) := bi_two (call_max2 hc) fun cs ds z e => by
  rcases bi_arity e with ⟨d, rfl⟩ | ⟨d, d', rfl⟩
  · simp [biD] at e
  · cases d <;> cases d' <;> simp only [biD] at e <;> cases e; exact ⟨_, _, rfl, rfl⟩
theorem bi_min (hc : X.calm = true) : CallR X (.builtin "min") (rBi X.K .min2) := bi_two (call_min2 hc) fun cs ds z e => by
  rcases bi_arity e with ⟨d, rfl⟩ | ⟨d, d', rfl⟩
  · simp [biD] at e
  · cases d <;> cases d' <;> simp only [biD] at e <;> cases e; exact ⟨_, _, rfl, rfl⟩
theorem bi_int : CallR X (.type "int") (rBi X.K .int) := by
  refine callr_of (call_int1.or call_int_str) fun vs H Q h => ?_
  obtain ⟨Hd, ρ, cs, ds, z, S, r, e, p⟩ := h
  rcases bi_arity e with ⟨d, rfl⟩ | ⟨d, d', rfl⟩
  · obtain ⟨v, rfl, r1⟩ := dnl1 r
    cases d <;> simp only [biD] at e <;> try (cases e; done)
    · cases e; rw [dn_bl.mp r1]
      exact .inl (.inr ⟨_, rfl, p.here S (dn_int.mpr rfl)⟩)
    · cases e; rw [dn_int.mp r1]
      exact .inl (.inl ⟨_, rfl, p.here S (dn_int.mpr rfl)⟩)
    · rename_i x
      split at e
      · rename_i hc
        cases en : PySem.intText? x with
        | none => rw [en] at e; cases e
        | some n =>
          rw [en] at e; cases e
          rw [dn_str.mp r1]
          exact .inr ⟨x, n, rfl, en, hc, p.here S (dn_int.mpr rfl)⟩
      · cases e
  · simp [biD] at e
theorem bi_divmod : CallR X (.builtin "divmod") (rBi X.K .divmod) := by
  refine callr_of call_divmod fun vs H Q h => ?_
  obtain ⟨Hd, ρ, cs, ds, z, S, r, e, p⟩ := h
  rcases bi_arity e with ⟨d, rfl⟩ | ⟨d, d', rfl⟩
  · simp [biD] at e
  · obtain ⟨v, u, rfl, r1, r2⟩ := dnl2 r
    cases d <;> cases d' <;> simp only [biD] at e <;> try (cases e; done)
    split at e
    · rename_i hc; cases e
      rw [dn_int.mp r1, dn_int.mp r2]
      exact ⟨_, _, rfl, hc, fun q hq => p.tup S (DnL.cons (dn_int.mpr rfl) (DnL.cons (dn_int.mpr rfl) DnL.nil)) hq⟩
    · cases e
theorem bi_tuple : CallR X (.type "tuple") (rBi X.K .tuple) := by
  refine callr_of call_tuple_of fun vs H Q h => ?_
  obtain ⟨Hd, ρ, cs, ds, z, S, r, e, p⟩ := h
  rcases bi_arity e with ⟨d, rfl⟩ | ⟨d, d', rfl⟩
  · obtain ⟨v, rfl, r1⟩ := dnl1 r
    by_cases ht : ∃ xs, d = .tup xs
    · obtain ⟨xs, rfl⟩ := ht
      simp only [biD] at e; cases e
      obtain ⟨a, us, rfl, h1, h2⟩ := dn_tup.mp r1
      exact ⟨a, us, rfl, .inr ⟨S.seqT h1, p.here S r1⟩⟩
    · have e' : (seqOf cs d).map D.tup = some z := by
        cases d with
        | tup xs => exact absurd ⟨xs, rfl⟩ ht
        | _ => simpa only [biD] using e
      cases es : seqOf cs d with
      | none => rw [es] at e'; cases e'
      | some xs =>
        rw [es] at e'; cases e'
        obtain ⟨a, us, rfl, h1, h2⟩ := seqOf_ok S es r1
        exact ⟨a, us, rfl, .inl ⟨h1, fun q hq => p.tup S h2 hq⟩⟩
  · simp [biD] at e
theorem bi_all (hc : X.calm = true) : CallR X (.builtin "all") (rBi X.K .all) := by
  refine callr_of (cr_all hc) fun vs H Q h => ?_
  obtain ⟨Hd, ρ, cs, ds, z, S, r, e, p⟩ := h
  rcases bi_arity e with ⟨d, rfl⟩ | ⟨d, d', rfl⟩
  · obtain ⟨v, rfl, r1⟩ := dnl1 r
    simp only [biD] at e
    cases es : seqOf cs d with
    | none => rw [es] at e; cases e
    | some xs =>
      rw [es] at e; simp only at e
      cases eb : blsOf xs with
      | none => rw [eb] at e; cases e
      | some bs =>
        rw [eb] at e; cases e
        obtain ⟨a, us, rfl, h1, h2⟩ := seqOf_ok S es r1
        rw [blsOf_ok eb] at h2
        rw [h2.bls] at h1
        exact ⟨a, bs, rfl, h1, p.here S (dn_bl.mpr rfl)⟩
  · simp [biD] at e
theorem bi_any (hc : X.calm = true) : CallR X (.builtin "any") (rBi X.K .any) := by
  refine callr_of (cr_any hc) fun vs H Q h => ?_
  obtain ⟨Hd, ρ, cs, ds, z, S, r, e, p⟩ := h
  rcases bi_arity e with ⟨d, rfl⟩ | ⟨d, d', rfl⟩
  · obtain ⟨v, rfl, r1⟩ := dnl1 r
    simp only [biD] at e
    cases es : seqOf cs d with
    | none => rw [es] at e; cases e
    | some xs =>
      rw [es] at e; simp only at e
      cases eb : blsOf xs with
      | none => rw [eb] at e; cases e
      | some bs =>
        rw [eb] at e; cases e
        obtain ⟨a, us, rfl, h1, h2⟩ := seqOf_ok S es r1
        rw [blsOf_ok eb] at h2
        rw [h2.bls] at h1
        exact ⟨a, bs, rfl, h1, p.here S (dn_bl.mpr rfl)⟩
  · simp [biD] at e
theorem bi_sum (hc : X.calm = true) : CallR X (.builtin "sum") (rBi X.K .sum) := by
  refine callr_of ((cr_sum hc).or (cr_sumT hc)) fun vs H Q h => ?_
  obtain ⟨Hd, ρ, cs, ds, z, S, r, e, p⟩ := h
  rcases bi_arity e with ⟨d, rfl⟩ | ⟨d, d', rfl⟩
  · obtain ⟨v, rfl, r1⟩ := dnl1 r
    by_cases ht : ∃ xs, d = .tup xs
    · obtain ⟨xs, rfl⟩ := ht
      simp only [biD] at e
      cases eb : intsOf xs with
      | none => rw [eb] at e; cases e
      | some bs =>
        rw [eb] at e; cases e
        obtain ⟨a, us, rfl, h1, h2⟩ := dn_tup.mp r1
        rw [intsOf_ok eb] at h2
        have h3 := S.seqT h1
        rw [h2.ints] at h3
        exact .inr ⟨a, bs, rfl, h3, p.here S (dn_int.mpr rfl)⟩
    · cases es : seqOf cs d with
      | none => exfalso; cases d <;> first | exact ht ⟨_, rfl⟩ | (simp only [biD] at e; rw [es] at e; cases e)
      | some xs =>
        cases eb : intsOf xs with
        | none => exfalso; cases d <;> first | exact ht ⟨_, rfl⟩ | (simp only [biD] at e; rw [es] at e; simp only at e; rw [eb] at e; cases e)
        | some bs =>
          have ez : z = .int bs.sum := by
            cases d <;> first | exact absurd ⟨_, rfl⟩ ht | (simp only [biD] at e; rw [es] at e; simp only at e; rw [eb] at e; cases e; rfl)
          subst ez
          obtain ⟨a, us, rfl, h1, h2⟩ := seqOf_ok S es r1
          rw [intsOf_ok eb] at h2
          rw [h2.ints] at h1
          exact .inl ⟨a, bs, rfl, h1, p.here S (dn_int.mpr rfl)⟩
  · simp [biD] at e
/-! isinstance -/
theorem tab_ok : ∀ a ∈ ["NoneType", "bool", "int", "str", "tuple", "list", "dict"], ∀ b ∈ ["bool", "int", "str", "tuple", "list", "dict"], kitB a b = some (a == b || (a == "bool" && b == "int")) := by
  intro a ha b hb
  simp only [List.mem_cons, List.not_mem_nil, or_false] at ha hb
  rcases ha with rfl | rfl | rfl | rfl | rfl | rfl | rfl <;> rcases hb with rfl | rfl | rfl | rfl | rfl | rfl <;> decide +kernel
theorem isiTab_ok {a b : String} {k : Bool} (h : isiTab a b = some k) : kitB a b = some k := by
  unfold isiTab at h
  split at h
  · rename_i hc
    rw [Bool.and_eq_true, List.contains_iff_mem, List.contains_iff_mem] at hc
    cases h
    exact tab_ok a hc.1 b hc.2
  · cases h
theorem tyName_ok {K : PySem.W.Frag} {Hd H : Hp} {ρ : List Addr} {cs : Cells} {d : D} {v : V} {n : String} (S : Sim K Hd ρ cs H) (h : tyName cs d = some n) (r : Dn K Hd ρ d v) : TyX K H v (.type n) := by
  cases d <;> simp only [tyName] at h <;> try (cases h; done)
  · cases h; rw [dn_non.mp r]; exact .base .non
  · cases h; rw [dn_bl.mp r]; exact .base (.bl _)
  · cases h; rw [dn_int.mp r]; exact .base (.int _)
  · cases h; rw [dn_str.mp r]; exact .base (.str _)
  · cases h
    obtain ⟨a, vs, rfl, h1, _⟩ := dn_tup.mp r
    rcases h1 with h1 | ⟨o, its, m, h1, h2, _⟩
    · exact .base (.tup (S.sub _ _ h1))
    · exact .kTuple h1 h2
  · cases h
    obtain ⟨a, vs, rfl, h1, _⟩ := dn_lst.mp r
    exact .base (.lst (S.sub _ _ h1))
  · cases h
    unfold Dn at r
    obtain ⟨a, vs, rfl, h1, _⟩ := r
    exact .base (.dK (S.sub _ _ h1))
  · obtain ⟨a, rfl, e2⟩ := dn_ref.mp r
    obtain ⟨c, e3, _, e4⟩ := S.at_cell e2
    rw [e3] at h
    cases c with
    | lst ys => cases h; obtain ⟨vs, q, _⟩ := e4; exact .base (.lst q)
    | dct ks ys => cases h; obtain ⟨vs, q, _⟩ := e4; exact .base (.dK q)
    | ins c ns ys => cases h
theorem dn_ty {K : PySem.W.Frag} {H : Hp} {ρ : List Addr} {n : String} {v : V} : Dn K H ρ (.ty n) v ↔ v = .ty n := by unfold Dn; exact Iff.rfl
theorem isiAny_ok {K : PySem.W.Frag} {H : Hp} {ρ : List Addr} {a : String} : ∀ {ts : List D} {vs : List V} {k : Bool}, isiAny a ts = some k → DnL K H ρ ts vs → ∃ us, Paired ClsV vs us ∧ PySem.W.kitAny K (.type a) us = some k
  | [], vs, k, h, r => by rw [r.of_nil]; simp only [isiAny] at h; cases h; exact ⟨[], .nil, rfl⟩
  | .ty b :: ts, _, k, h, r => by
    obtain ⟨v, rs, rfl, h1, h2⟩ := r.of_cons
    rw [dn_ty.mp h1]
    simp only [isiAny] at h
    cases e : isiTab a b with
    | none => rw [e] at h; cases h
    | some q =>
      cases e2 : isiAny a ts with
      | none => rw [e, e2] at h; cases h
      | some q2 =>
        have kit : PySem.W.kitOne K (.type a) (.type b) = some q := kit_ty (isiTab_ok e)
        obtain ⟨us, hu, hk⟩ := isiAny_ok e2 h2
        rw [e, e2] at h
        cases h
        refine ⟨.type b :: us, .cons (.ty b) hu, ?_⟩
        show (match PySem.W.kitOne K (.type a) (.type b) with | some true => some true | some false => PySem.W.kitAny K (.type a) us | none => none) = some (q || q2)
        rw [kit, hk]
        cases q <;> rfl
  | .non :: _, _, _, h, _ | .bl _ :: _, _, _, h, _ | .int _ :: _, _, _, h, _ | .str _ :: _, _, _, h, _ | .tup _ :: _, _, _, h, _ | .lst _ :: _, _, _, h, _ | .scr _ :: _, _, _, h, _ | .dct _ _ :: _, _, _, h, _ | .obj _ _ _ :: _, _, _, h, _ | .ref _ :: _, _, _, h, _ => by simp only [isiAny] at h; cases h
theorem bi_isi : CallR X (.builtin "isinstance") (rBi X.K .isi) := by
  refine callr_of (call_isi.or (call_isiT.or call_isiK)) fun vs H Q h => ?_
  obtain ⟨Hd, ρ, cs, ds, z, S, r, e, p⟩ := h
  rcases bi_arity e with ⟨d, rfl⟩ | ⟨d, d', rfl⟩
  · simp [biD] at e
  · obtain ⟨v, u, rfl, r1, r2⟩ := dnl2 r
    simp only [biD, isiD] at e
    cases et : tyName cs d with
    | none => rw [et] at e; cases e
    | some a =>
      rw [et] at e; simp only at e
      have ty := tyName_ok S et r1
      cases d' with
      | ty b =>
        simp only at e
        cases eb : isiTab a b with
        | none => rw [eb] at e; cases e
        | some k =>
          rw [eb] at e; cases e
          rw [dn_ty.mp r2]
          exact .inl ⟨v, .ty b, .type a, .type b, k, rfl, .ty b, ty, kit_ty (isiTab_ok eb), p.here S (dn_bl.mpr rfl)⟩
      | tup ts =>
        simp only at e
        cases eb : isiAny a ts with
        | none => rw [eb] at e; cases e
        | some k =>
          rw [eb] at e; cases e
          obtain ⟨q, us, rfl, h1, h2⟩ := dn_tup.mp r2
          obtain ⟨ws, hw, hk⟩ := isiAny_ok (K := X.K) eb h2
          rcases h1 with h1 | ⟨o, its, m, g1, g2, g3, g4, g5⟩
          · exact .inr (.inl ⟨v, q, us, .type a, ws, k, rfl, S.sub _ _ h1, hw, ty, hk, p.here S (dn_bl.mpr rfl)⟩)
          · have ew := ClsV.all hw g5
            obtain ⟨oc, od, dt, sl⟩ := o
            simp only at g2 g3
            subst g2 g3
            exact .inr (.inr ⟨v, q, od, ws, m, sl, .type a, k, rfl, by rw [g1, ← ew], ty, hk, p.here S (dn_bl.mpr rfl)⟩)
      | _ => simp at e
end
end Mc
set_option Elab.async false
set_option linter.all false
set_option maxRecDepth 100000
set_option maxHeartbeats 2000000
namespace Mc
open PySem PySem.Spec PyProof.Rows L2
section
variable {X : Cx}
/-- repr of data, where no guard stands -/
def rShow (K : PySem.W.Frag) : List V → Hp → VK → Prop := fun xs H Q => ∃ x d, xs = [x] ∧ Dp K H x d ∧ d.showable = true ∧ d.depth ≤ 64 ∧ d.hasDict = false ∧ d.shown.length ≤ cap ∧ Q (.str d.shown) H
theorem call_show (g : X.A.guards = some []) (hu : X.A.units + 70 < cLine) : CallR X (.builtin "repr") (rShow X.K) := by
  intro pins s σ H xs us Q I r h
  obtain ⟨x, d, rfl, hd, h1, h2, h3, h4, q⟩ := h
  obtain ⟨u, rfl, ru⟩ := vals1 r
  cases hd with
  | non =>
    obtain rfl := (show u = Value.none from ru)
    rw [PyData.shown_none] at q
    exact PySem.P.repr_of_none ⟨.str _, H, I.tok _, ⟨_, rfl⟩, q⟩
  | bl b =>
    obtain rfl := (show u = Value.bool b from ru)
    rw [PyData.shown_bool] at q
    exact PySem.P.repr_of_bool ⟨.str _, H, I.tok _, ⟨_, rfl⟩, q⟩
  | int i =>
    obtain ⟨t, rfl⟩ := (show ∃ t, u = Value.int i t from ru)
    rw [PyData.shown_int] at q
    refine PySem.P.repr_of_int (by simpa [PyData.showable] using h1) ⟨.str _, H, I.tok _, ⟨_, rfl⟩, q⟩
  | str y =>
    obtain ⟨t, rfl⟩ := (show ∃ t, u = Value.str y t from ru)
    rw [PyData.shown_str] at q h4
    exact PySem.P.repr_of_str ⟨.str _, H, I.tok _, ⟨_, rfl⟩, q⟩ (cap_le h4)
  | @lst a ys ds hs ha =>
    obtain rfl := (show u = Value.ref a from ru)
    obtain ⟨as, hr⟩ := Dp.reads I _ _ _ (.lst hs ha) ru
    exact repr_of_reads' hr h1 (PyData.noDict_hsm h3) g (by omega) (fun _ _ z => z) (fun h' u tk k => ⟨.str _, H, I.kept k, ⟨_, rfl⟩, q⟩) (cap_le h4)
  | @tup a ys ds hs ha =>
    obtain rfl := (show u = Value.ref a from ru)
    obtain ⟨as, hr⟩ := Dp.reads I _ _ _ (.tup hs ha) ru
    exact repr_of_reads' hr h1 (PyData.noDict_hsm h3) g (by omega) (fun _ _ z => z) (fun h' u tk k => ⟨.str _, H, I.kept k, ⟨_, rfl⟩, q⟩) (cap_le h4)
theorem bi_repr (g : X.A.guards = some []) (hu : X.A.units + 70 < cLine) : CallR X (.builtin "repr") (rBi X.K .repr) := by
  refine callr_of (call_show g hu) fun vs H Q h => ?_
  obtain ⟨Hd, ρ, cs, ds, z, S, r, e, p⟩ := h
  rcases bi_arity e with ⟨d, rfl⟩ | ⟨d, d', rfl⟩
  · obtain ⟨v, rfl, r1⟩ := dnl1 r
    simp only [biD] at e
    cases ex : py cs d with
    | none => rw [ex] at e; cases e
    | some x =>
      rw [ex] at e
      simp only at e
      split at e
      · rename_i hc
        obtain ⟨c1, c2, c3⟩ := hc
        rw [Bool.and_eq_true, decide_eq_true_eq] at c1
        cases e
        exact ⟨v, x, rfl, py_ok S ex r1, c1.1, c1.2, c3, c2, p.here S (dn_str.mpr rfl)⟩
      · cases e
  · simp [biD] at e
def biVal : Bi → Value
  | .len => .builtin "len" | .abs => .builtin "abs" | .max2 => .builtin "max" | .min2 => .builtin "min" | .int => .type "int" | .divmod => .builtin "divmod" | .tuple => .type "tuple"
  | .all => .builtin "all" | .any => .builtin "any" | .sum => .builtin "sum" | .repr => .builtin "repr" | .isi => .builtin "isinstance" | .str => .type "str"
def biName : Bi → Str
  | .len => "len" | .abs => "abs" | .max2 => "max" | .min2 => "min" | .int => "int" | .divmod => "divmod" | .tuple => "tuple"
  | .all => "all" | .any => "any" | .sum => "sum" | .repr => "repr" | .isi => "isinstance" | .str => "str"
theorem bi_D (hc : X.calm = true) (g : X.A.guards = some []) (hu : X.A.units + 70 < cLine) (b : Bi) : CallR X (biVal b) (rBi X.K b) := by
  cases b with
  | len => exact bi_len
  | abs => exact bi_abs
  | max2 => exact bi_max hc
  | min2 => exact bi_min hc
  | int => exact bi_int
  | divmod => exact bi_divmod
  | tuple => exact bi_tuple
  | all => exact bi_all hc
  | any => exact bi_any hc
  | sum => exact bi_sum hc
  | repr => exact bi_repr g hu
  | isi => exact bi_isi
  | str =>
    intro pins s σ H xs us Q I r h
    obtain ⟨_, _, _, ds, _, _, _, e, _⟩ := h
    exfalso
    rcases bi_arity e with ⟨d, rfl⟩ | ⟨d, d', rfl⟩ <;> simp [biD] at e
theorem bi_boot (b : Bi) : bootBuiltins (biName b) = some (biVal b) := by cases b <;> decide +kernel

/-! ### truth, subscripts, slices -/
theorem truD_ok {K : PySem.W.Frag} {Hd H : Hp} {ρ : List Addr} {cs : Cells} {d : D} {v : V} {k : Bool} (S : Sim K Hd ρ cs H) (h : truD cs d = some k) (r : Dn K Hd ρ d v) : TruV K v H k := by
  have emp : ∀ {xs : List D} {vs : List V}, DnL K Hd ρ xs vs → xs.isEmpty = vs.isEmpty := fun {xs vs} q => by
    have n := q.length
    cases xs <;> cases vs <;> simp at n <;> rfl
  cases d <;> simp only [truD] at h <;> try (cases h; done)
  · cases h; rw [dn_non.mp r]; rfl
  · cases h; rw [dn_bl.mp r]; rfl
  · cases h; rw [dn_int.mp r]; rfl
  · split at h
    · rename_i hc; cases h; rw [dn_str.mp r]; exact ⟨cap_le hc, rfl⟩
    · cases h
  · cases h
    obtain ⟨a, vs, rfl, h1, h2⟩ := dn_tup.mp r
    exact .inr (.inl ⟨vs, S.seqT h1, by rw [emp h2]⟩)
  · cases h
    obtain ⟨a, vs, rfl, h1, h2⟩ := dn_lst.mp r
    exact .inl ⟨vs, SqL.of (S.sub _ _ h1), by rw [emp h2]⟩
  · cases h
    obtain ⟨a, vs, rfl, h1, h2⟩ := dn_scr.mp r
    exact .inl ⟨vs, S.sub.seq h1, by rw [emp h2]⟩
  · obtain ⟨a, rfl, e2⟩ := dn_ref.mp r
    obtain ⟨c, e3, _, e4⟩ := S.at_cell e2
    rw [e3] at h
    cases c with
    | lst ys => cases h; obtain ⟨vs, q1, q2⟩ := e4; exact .inl ⟨vs, SqL.of q1, by rw [emp q2]⟩
    | dct ks ys => cases h
    | ins c ns ys => cases h
theorem ixr_of {r r' : R2} (h : IxR X r) (i : ∀ x y H Q, r' x y H Q → r x y H Q) : IxR X r' := fun value slice pins s σ H x y v u Q I rx ry q hs => h value slice pins s σ H x y v u Q I rx ry (i _ _ _ _ q) hs
theorem ix_D : IxR X (rD X.K idxD) := by
  refine ixr_of ix_seq fun x y H Q h => ?_
  obtain ⟨Hd, ρ, cs, a, b, z, S, ra, rb, e, p⟩ := h
  cases b with
  | int i =>
    rw [dn_int.mp rb]
    have seq : ∀ xs, seqOf cs a = some xs → atI xs i = some z → rIx X.K x (.int i) H Q := fun xs e1 e2 => by
      obtain ⟨l, vs, rfl, h1, h2⟩ := seqOf_ok S e1 ra
      obtain ⟨v, h3, h4⟩ := atI_ok h2 e2
      exact .inl ⟨l, vs, i, v, rfl, rfl, h1, h3, p.here S h4⟩
    cases a with
    | tup xs =>
      simp only [idxD] at e
      obtain ⟨l, vs, rfl, h1, h2⟩ := dn_tup.mp ra
      obtain ⟨v, h3, h4⟩ := atI_ok h2 e
      exact .inr (.inl ⟨l, vs, i, v, rfl, rfl, S.seqT h1, h3, p.here S h4⟩)
    | str w =>
      simp only [idxD] at e
      split at e
      · rename_i hc
        cases ec : atI w.cps.toList i with
        | none => rw [ec] at e; cases e
        | some c =>
          rw [ec] at e; cases e
          rw [dn_str.mp ra]
          exact .inr (.inr ⟨w, i, c, rfl, rfl, cap_le hc, ec, p.here S (dn_str.mpr rfl)⟩)
      · cases e
    | lst xs => exact seq xs rfl (by simpa only [idxD, seqOf] using e)
    | scr xs => exact seq xs rfl (by simpa only [idxD, seqOf] using e)
    | ref n =>
      simp only [idxD] at e
      cases es : seqOf cs (.ref n) with
      | none => rw [es] at e; cases e
      | some xs => rw [es] at e; exact seq xs es e
    | _ => simp [idxD, seqOf] at e
  | _ => cases a <;> simp [idxD] at e
def rSlD (K : PySem.W.Frag) : V → Option Int → Option Int → Hp → VK → Prop := fun x lo hi H Q => ∃ Hd ρ cs a z, Sim K Hd ρ cs H ∧ Dn K Hd ρ a x ∧ slcD a lo hi = some z ∧ Post K Hd ρ H cs z Q
theorem slr_of {r r' : V → Option Int → Option Int → Hp → VK → Prop} (h : SlR X r) (i : ∀ x lo hi H Q, r' x lo hi H Q → r x lo hi H Q) : SlR X r' := fun pins s σ H x v vl vu lo hi sl Q I rx hs pl pu q => h pins s σ H x v vl vu lo hi sl Q I rx hs pl pu (i _ _ _ _ _ q)
theorem sl_D : SlR X (rSlD X.K) := by
  refine slr_of (SlR.or sl_str sl_tupA) fun x lo hi H Q h => ?_
  obtain ⟨Hd, ρ, cs, a, z, S, ra, e, p⟩ := h
  cases a <;> simp only [slcD] at e <;> try (cases e; done)
  · split at e
    · rename_i hc; cases e
      rw [dn_str.mp ra]
      exact .inl ⟨_, rfl, cap_le hc, p.here S (dn_str.mpr rfl)⟩
    · cases e
  · rename_i xs
    cases e
    obtain ⟨l, vs, rfl, h1, h2⟩ := dn_tup.mp ra
    refine .inr ⟨l, vs, rfl, S.seqT h1, fun hw => ?_, fun hw q hq => p.tup S (cutD_ok lo hi h2) hq⟩
    have e0 : cutD xs lo hi = xs := by
      rw [h2.length] at hw
      unfold cutD
      rw [hw.1, hw.2]
      simp
    rw [e0] at p
    exact p.here S (dn_tup.mpr ⟨l, vs, rfl, h1, h2⟩)
/-- a list's slice: what the new list holds -/
def rSlL' (K : PySem.W.Frag) : V → Option Int → Option Int → Hp → VK → Prop := rSlL K

/-! ### methods -/
def rMt (K : PySem.W.Frag) (m : Mt) : V → List V → Hp → VK → Prop := fun x vs H Q => ∃ Hd ρ cs a ds z cs', Sim K Hd ρ cs H ∧ Dn K Hd ρ a x ∧ DnL K Hd ρ ds vs ∧ mtD cs m a ds = some (z, cs') ∧ Post K Hd ρ H cs' z Q
theorem mtr_of {id : String} {r r' : V → List V → Hp → VK → Prop} (h : MtR X id r) (i : ∀ x xs H Q, r' x xs H Q → r x xs H Q) : MtR X id r' := fun pins s σ H x xs v us Q I rx rs q => h pins s σ H x xs v us Q I rx rs (i _ _ _ _ q)
/-- a method that changes a cell's list -/
theorem Post.put {K : PySem.W.Frag} {Hd H : Hp} {ρ : List Addr} {cs : Cells} {Q : VK} {n : Nat} {a : Addr} {xs : List D} {vs : List V} {z : D} {v : V} (p : Post K Hd ρ H (cs.set n (.lst xs)) z Q) (S : Sim K Hd ρ cs H) (ha : ρ[n]? = some a) (r : DnL K Hd ρ xs vs) (rz : Dn K Hd ρ z v) : Q v (upd H a (.lst vs)) :=
  p _ _ _ _ (step_store ha) (S.store ha ⟨vs, upd_same, r⟩) rz
theorem cell_at {K : PySem.W.Frag} {Hd H : Hp} {ρ : List Addr} {cs : Cells} {n : Nat} {xs : List D} {x : V} (S : Sim K Hd ρ cs H) (e : cs[n]? = some (.lst xs)) (r : Dn K Hd ρ (.ref n) x) : ∃ a vs, x = .ref a ∧ ρ[n]? = some a ∧ H a = some (.lst vs) ∧ DnL K Hd ρ xs vs := by
  obtain ⟨a, rfl, ha⟩ := dn_ref.mp r
  obtain ⟨_, vs, h1, h2⟩ := S.cell n a _ ha e
  exact ⟨a, vs, rfl, ha, h1, h2⟩
theorem mt_appendD : MtR X "list.append" (rMt X.K .append) := by
  refine mtr_of mt_append fun x vs H Q h => ?_
  obtain ⟨Hd, ρ, cs, a, ds, z, cs', S, ra, rs, e, p⟩ := h
  match a, ds, e, ra, rs with
  | .ref n, [d], e, ra, rs =>
    simp only [mtD] at e
    split at e
    · rename_i xs hx
      split at e
      · rename_i hc; cases e
        obtain ⟨l, us, rfl, h1, h2, h3⟩ := cell_at S hx ra
        obtain ⟨v, rfl, r1⟩ := dnl1 rs
        exact ⟨l, us, v, rfl, rfl, h2, by rw [h3.length]; exact cap_lt hc, p.put S h1 (h3.app (DnL.cons r1 DnL.nil)) (dn_non.mpr rfl)⟩
      · cases e
    · cases e
theorem mt_extendD : MtR X "list.extend" (rMt X.K .extend) := by
  refine mtr_of mt_extend fun x vs H Q h => ?_
  obtain ⟨Hd, ρ, cs, a, ds, z, cs', S, ra, rs, e, p⟩ := h
  match a, ds, e, ra, rs with
  | .ref n, [d], e, ra, rs =>
    simp only [mtD] at e
    split at e
    · rename_i xs ys hx hy
      split at e
      · rename_i hc; cases e
        obtain ⟨l, us, rfl, h1, h2, h3⟩ := cell_at S hx ra
        obtain ⟨v, rfl, r1⟩ := dnl1 rs
        obtain ⟨b, ws, rfl, h4, h5⟩ := lstOf_ok S hy r1
        exact ⟨l, b, us, ws, rfl, rfl, h2, h4, by rw [h3.length, h5.length]; exact cap_le hc, p.put S h1 (h3.app h5) (dn_non.mpr rfl)⟩
      · cases e
    · cases e
theorem DnL.last {K : PySem.W.Frag} {H : Hp} {ρ : List Addr} {ds : List D} {vs : List V} (h : DnL K H ρ ds vs) : DnL K H ρ ds.dropLast vs.dropLast := by
  rw [List.dropLast_eq_take, List.dropLast_eq_take, h.length]
  exact h.take _
theorem mt_popD : MtR X "list.pop" (rMt X.K .pop) := by
  refine mtr_of mt_pop fun x vs H Q h => ?_
  obtain ⟨Hd, ρ, cs, a, ds, z, cs', S, ra, rs, e, p⟩ := h
  match a, ds, e, ra, rs with
  | .ref n, [], e, ra, rs =>
    simp only [mtD] at e
    split at e
    · rename_i xs hx
      split at e
      · rename_i y hy; cases e
        obtain ⟨l, us, rfl, h1, h2, h3⟩ := cell_at S hx ra
        obtain ⟨v, h4, h5⟩ := h3.get hy
        exact ⟨l, us, v, rfl, rs.of_nil, h2, by rw [h3.length]; exact h4, p.put S h1 h3.last h5⟩
      · cases e
    · cases e
theorem mt_popAtD : MtR X "list.pop" (rMt X.K .popAt) := by
  refine mtr_of mt_popAt fun x vs H Q h => ?_
  obtain ⟨Hd, ρ, cs, a, ds, z, cs', S, ra, rs, e, p⟩ := h
  match a, ds, e, ra, rs with
  | .ref n, [.int i], e, ra, rs =>
    simp only [mtD] at e
    split at e
    · rename_i xs hx
      split at e
      · rename_i hc
        split at e
        · rename_i y hy; cases e
          obtain ⟨l, us, rfl, h1, h2, h3⟩ := cell_at S hx ra
          obtain ⟨v, rfl, r1⟩ := dnl1 rs
          obtain ⟨u, h4, h5⟩ := h3.get hy
          have cc : (cap : Int) < 2 ^ 63 := by decide
          have n1 : (i.toNat : Int) = i := Int.toNat_of_nonneg hc.1
          refine ⟨l, us, i, i.toNat, u, rfl, by rw [dn_int.mp r1], h2, by omega, ?_, ?_, h4, p.put S h1 (h3.eraseIdx _) h5⟩
          · have := hc.2.2; omega
          · have q := (ixN_seq (n := us.length) (i := i) (j := i.toNat) (by unfold ixN; rw [if_pos hc.1, if_pos (by rw [h3.length]; exact hc.2.1)])).1
            exact q
        · cases e
      · cases e
    · cases e
theorem mt_clearD : MtR X "list.clear" (rMt X.K .clear) := by
  refine mtr_of mt_clear fun x vs H Q h => ?_
  obtain ⟨Hd, ρ, cs, a, ds, z, cs', S, ra, rs, e, p⟩ := h
  match a, ds, e, ra, rs with
  | .ref n, [], e, ra, rs =>
    simp only [mtD] at e
    split at e
    · rename_i xs hx; cases e
      obtain ⟨l, us, rfl, h1, h2, h3⟩ := cell_at S hx ra
      exact ⟨l, us, rfl, rs.of_nil, h2, p.put S h1 DnL.nil (dn_non.mpr rfl)⟩
    · cases e
theorem DnL.rev {K : PySem.W.Frag} {H : Hp} {ρ : List Addr} : ∀ {ds : List D} {vs : List V}, DnL K H ρ ds vs → DnL K H ρ ds.reverse vs.reverse
  | [], _, h => by rw [h.of_nil]; simp; exact DnL.nil
  | d :: ds, _, h => by
    obtain ⟨v, r, rfl, h1, h2⟩ := h.of_cons
    rw [List.reverse_cons, List.reverse_cons]
    exact (DnL.rev h2).app (DnL.cons h1 DnL.nil)
theorem mt_reverseD : MtR X "list.reverse" (rMt X.K .reverse) := by
  refine mtr_of mt_reverse fun x vs H Q h => ?_
  obtain ⟨Hd, ρ, cs, a, ds, z, cs', S, ra, rs, e, p⟩ := h
  match a, ds, e, ra, rs with
  | .ref n, [], e, ra, rs =>
    simp only [mtD] at e
    split at e
    · rename_i xs hx; cases e
      obtain ⟨l, us, rfl, h1, h2, h3⟩ := cell_at S hx ra
      exact ⟨l, us, rfl, rs.of_nil, h2, p.put S h1 h3.rev (dn_non.mpr rfl)⟩
    · cases e
theorem mt_joinD : MtR X "str.join" (rMt X.K .join) := by
  refine mtr_of mt_join fun x vs H Q h => ?_
  obtain ⟨Hd, ρ, cs, a, ds, z, cs', S, ra, rs, e, p⟩ := h
  match a, ds, e, ra, rs with
  | .str sep, [d], e, ra, rs =>
    simp only [mtD] at e
    split at e
    · rename_i xs hx
      split at e
      · rename_i ws hw
        split at e
        · rename_i hc; cases e
          obtain ⟨v, rfl, r1⟩ := dnl1 rs
          obtain ⟨b, us, rfl, h4, h5⟩ := seqOf_ok S hx r1
          rw [strsOf_ok hw] at h5
          rw [h5.strs] at h4
          exact ⟨sep, b, ws, dn_str.mp ra, rfl, .inl h4, cap_le hc, p.here S (dn_str.mpr rfl)⟩
        · cases e
      · cases e
    · cases e
theorem mt_startsD : MtR X "str.startswith" (rMt X.K .startswith) := by
  refine mtr_of mt_startswith fun x vs H Q h => ?_
  obtain ⟨Hd, ρ, cs, a, ds, z, cs', S, ra, rs, e, p⟩ := h
  match a, ds, e, ra, rs with
  | .str u, [.str t], e, ra, rs =>
    simp only [mtD] at e; cases e
    obtain ⟨v, rfl, r1⟩ := dnl1 rs
    exact ⟨u, t, dn_str.mp ra, by rw [dn_str.mp r1], p.here S (dn_bl.mpr rfl)⟩
theorem mt_stripD : MtR X "str.strip" (rMt X.K .strip) := by
  refine mtr_of mt_stripChars fun x vs H Q h => ?_
  obtain ⟨Hd, ρ, cs, a, ds, z, cs', S, ra, rs, e, p⟩ := h
  match a, ds, e, ra, rs with
  | .str u, [.str t], e, ra, rs =>
    simp only [mtD] at e
    split at e
    · rename_i hc; cases e
      obtain ⟨v, rfl, r1⟩ := dnl1 rs
      exact ⟨u, t, dn_str.mp ra, by rw [dn_str.mp r1], cap_le hc, p.here S (dn_str.mpr rfl)⟩
    · cases e
end
end Mc
set_option Elab.async false
set_option linter.all false
set_option maxRecDepth 100000
set_option maxHeartbeats 4000000
namespace Mc
open PySem PySem.Spec PyProof.Rows L2

/-! ### the text, held against the words -/
structure Fi where
  name : Str
  ps : List Str
  addr : Addr
  top : Bool
/-- defs, constants of the top; of classes: fields, properties, methods, the names of classes with their __init__ -/
structure Tb where
  fis : List Fi
  gls : List (Str × D)
  flds : List (Addr × Str) := []
  prps : List (Addr × Str × Nat) := []
  mths : List (Addr × Str × Nat) := []
  mks : List (Str × Addr × Nat) := []
  kbs : List Kf := []
  gds : List (Str × List Str × List D) := []
def atomEq : D → D → Bool
  | .non, .non => true
  | .bl a, .bl b => a == b
  | .int a, .int b => a == b
  | .str a, .str b => a == b
  | _, _ => false
theorem atomEq_ok {a b : D} (h : atomEq a b = true) : a = b := by
  cases a <;> cases b <;> simp only [atomEq] at h <;> first | rfl | (cases h; done) | (rw [eq_of_beq h])
mutual
def cstEq : D → D → Bool
  | .tup xs, d => (match d with | .tup ys => cstEqL xs ys | _ => false)
  | a, b => atomEq a b
def cstEqL : List D → List D → Bool
  | [], ys => (match ys with | [] => true | _ => false)
  | x :: xs, ys => (match ys with | y :: ys => cstEq x y && cstEqL xs ys | [] => false)
end
mutual
theorem cstEq_ok : ∀ {a b : D}, cstEq a b = true → a = b
  | .tup xs, d, h => by
    unfold cstEq at h
    cases d with
    | tup ys => rw [cstEqL_ok h]
    | _ => cases h
  | .non, b, h | .bl _, b, h | .int _, b, h | .str _, b, h | .lst _, b, h | .scr _, b, h | .dct _ _, b, h | .obj _ _ _, b, h | .ref _, b, h | .ty _, b, h => by
    unfold cstEq at h; exact atomEq_ok h
theorem cstEqL_ok : ∀ {a b : List D}, cstEqL a b = true → a = b
  | [], b, h => by
    unfold cstEqL at h
    cases b with
    | nil => rfl
    | cons _ _ => cases h
  | x :: xs, b, h => by
    unfold cstEqL at h
    cases b with
    | nil => cases h
    | cons y ys =>
      rw [Bool.and_eq_true] at h
      rw [cstEq_ok h.1, cstEqL_ok h.2]
end
def notStar : Expr → Bool | .Starred _ _ => false | _ => true
def plainO : Expr → Bool | .Call (.Name _ _) [] [] _ => false | _ => true
def notSlice : Expr → Bool | .Slice _ _ _ _ => false | _ => true
def notSet : Expr → Bool | .Set _ _ _ => false | _ => true
def notComp : Expr → Bool | .ListComp _ _ _ _ => false | .SetComp _ _ _ _ => false | .DictComp _ _ _ _ _ => false | _ => true
/-- its truth is that of its value -/
def plainT : Expr → Bool | .UnaryOp .Not _ _ => false | .BoolOp _ _ _ => false | .IfExp _ _ _ _ => false | .Compare _ _ _ _ => false | _ => true
def isVis (sc : Scope) (x : Str) : Bool := match sc.names.lookup x with | some .local => true | some .cell => true | some .free => true | _ => false
def isLoc (sc : Scope) (x : Str) : Bool := match sc.names.lookup x with | some .local => true | some .cell => true | _ => false
def isGl (sc : Scope) (x : Str) : Bool := decide (sc.names.lookup x = some .globalImplicit)
def tyNames : List String := ["int", "str", "bool", "list", "tuple", "dict"]
def mtName : Mt → Str
  | .append => "append" | .extend => "extend" | .pop => "pop" | .popAt => "pop" | .clear => "clear" | .reverse => "reverse" | .join => "join" | .startswith => "startswith" | .strip => "strip" | .index => "index" | .count => "count"
section
variable (tb : Tb) (N : List Str)
mutual
def chkE (sc : Scope) : E → Expr → Bool
  | .var i, e => (match e with | .Name x _ => decide (N[i]? = some x) && isVis sc x && !(x == "__debug__") && !(x == "__classdict__") | _ => false)
  | .cst d, e => (match e with
    | .Constant .none _ _ => atomEq d .non
    | .Constant (.bool b) _ _ => atomEq d (.bl b)
    | .Constant (.int i) _ _ => atomEq d (.int i)
    | .Constant (.str x) _ _ => atomEq d (.str x)
    | _ => false)
  | .glo x d, e => (match e with
    | .Name y _ => y == x && isGl sc x && !(x == "__debug__") && (match d with
      | .ty n => tyNames.contains n && x == Str.ofString n
      | d => tb.gls.any fun p => p.1 == x && cstEq p.2 d)
    | _ => false)
  | .op o a b, e => (match e with | .BinOp l p r _ => decide (p = o) && chkE sc a l && chkE sc b r | _ => false)
  | .cmp o a b, e => (match e with | .Compare l [p] [r] _ => decide (p = o) && notSet r && chkE sc a l && chkE sc b r | _ => false)
  | .and es, e => (match e with | .BoolOp .And vs _ => chkEs sc es vs | _ => false)
  | .or es, e => (match e with | .BoolOp .Or vs _ => chkEs sc es vs | _ => false)
  | .not a, e => (match e with | .UnaryOp .Not x _ => chkE sc a x | _ => false)
  | .neg a, e => (match e with | .UnaryOp .USub x _ => chkE sc a x | _ => false)
  | .ite c a b, e => (match e with | .IfExp t x y _ => chkE sc c t && chkE sc a x && chkE sc b y | _ => false)
  | .tup es, e => (match e with | .Tuple xs _ _ => chkEs sc es xs | _ => false)
  | .new _ l, e => chkL sc l e
  | .idx a b, e => (match e with | .Subscript x y _ => notSlice y && chkE sc a x && chkE sc b y | _ => false)
  | .slc a lo hi, e => (match e with | .Subscript x (.Slice l h none _) _ => chkE sc a x && chkO sc lo l && chkO sc hi h | _ => false)
  | .call f es, e => (match e with
    | .Call (.Name x _) (a :: as) [] _ => (match tb.fis[f]? with | some fi => fi.name == x && fi.top | none => false) && isGl sc x && chkEs sc es (a :: as)
    | _ => false)
  | .bi b es, e => (match e with
    | .Call (.Name x _) (a :: as) [] _ => x == biName b && isGl sc x && chkEs sc es (a :: as)
    | _ => false)
  | .mt m o es, e => (match e with
    | .Call (.Attribute ob nm ap) args [] cp => nm == mtName m && plainO ob && (ap.endLine == cp.line) && chkE sc o ob && (match args with
      | [] => chkEs sc es []
      | [a] => chkEs sc es [a]
      | _ => false)
    | _ => false)
  | .chn o1 o2 a b c, e => (match e with | .Compare l [p, q] [r, u] _ => decide (p = o1) && decide (q = o2) && notSet u && chkE sc a l && chkE sc b r && chkE sc c u | _ => false)
  | .fld c f a, e => (match e with | .Attribute x nm _ => nm == f && plainO x && tb.flds.contains (c, f) && chkE sc a x | _ => false)
  | .prp c f i a, e => (match e with | .Attribute x nm _ => nm == f && plainO x && tb.prps.contains (c, f, i) && chkE sc a x | _ => false)
  | .mth c m i o es, e => (match e with
    | .Call (.Attribute ob nm ap) args [] cp => nm == m && plainO ob && (ap.endLine == cp.line) && decide (args.length < 30) && tb.mths.contains (c, m, i) && chkE sc o ob && chkEs sc es args
    | _ => false)
  | .mk c i _ es, e => (match e with
    | .Call (.Name x _) (a :: as) [] _ => tb.mks.contains (x, c, i) && isGl sc x && chkEs sc es (a :: as)
    | _ => false)
  | .lenO c i a, e => (match e with | .Call (.Name x _) [v] [] _ => x == "len" && isGl sc x && notStar v && tb.mths.contains (c, "__len__", i) && chkE sc a v | _ => false)
  | .reprO c i a, e => (match e with | .Call (.Name x _) [v] [] _ => x == "repr" && isGl sc x && notStar v && tb.mths.contains (c, "__repr__", i) && chkE sc a v | _ => false)
  | .eqO c i a b, e => (match e with | .Compare l [p] [r] _ => decide (p = .Eq) && notSet r && tb.mths.contains (c, "__eq__", i) && chkE sc a l && chkE sc b r | _ => false)
  | .callK kf es kw, e => (match e with
    | .Call (.Name x _) as kws _ => (match tb.fis[kf.i]? with | some fi => fi.name == x && fi.top | none => false) && tb.kbs.contains kf && isGl sc x && chkEs sc es as && chkKw sc kw kws kf.ks
    | _ => false)
  | .mthK c m kf o es kw, e => (match e with
    | .Call (.Attribute ob nm ap) as kws cp => nm == m && plainO ob && (ap.endLine == cp.line) && decide (as.length + kws.length + 1 < 30) && tb.mths.contains (c, m, kf.i) && tb.kbs.contains kf && chkE sc o ob && chkEs sc es as && chkKw sc kw kws kf.ks
    | _ => false)
  | .mkK c kf _ es kw, e => (match e with
    | .Call (.Name x _) as kws _ => tb.mks.contains (x, c, kf.i) && tb.kbs.contains kf && isGl sc x && chkEs sc es as && chkKw sc kw kws kf.ks
    | _ => false)
  | .gsub x ks ds a, e => (match e with
    | .Subscript (.Name y _) i _ => y == x && isGl sc x && !(x == "__debug__") && notSlice i && (tb.gds.any fun p => p.1 == x && p.2.1 == ks && cstEqL p.2.2 ds) && chkE sc a i
    | _ => false)
  | .gin x ks neg a, e => (match e with
    | .Compare l [p] [.Name y _] _ => decide (p = (if neg = true then CmpOp.NotIn else CmpOp.In)) && y == x && isGl sc x && !(x == "__debug__") && (tb.gds.any fun p => p.1 == x && p.2.1 == ks) && chkE sc a l
    | _ => false)
  | .dsub ps a, e => (match e with
    | .Subscript (.Dict ks vs _) i _ => notSlice i && chkPairs ps ks vs && !ps.isEmpty && decide (ps.length ≤ 15) && chkE sc a i
    | _ => false)
  | .stp a lo st, e => (match e with
    | .Subscript x (.Slice (some (.Constant (.int i) _ _)) none (some (.Constant (.int j) _ _)) _) _ => decide (i = lo) && decide (j = st) && !(j == 0) && chkE sc a x
    | _ => false)
def chkEs (sc : Scope) : Es → List Expr → Bool
  | .nil, vs => (match vs with | [] => true | _ => false)
  | .cons e es, vs => (match vs with | v :: vs => notStar v && chkE sc e v && chkEs sc es vs | [] => false)
def chkKw (sc : Scope) : Es → List Keyword → List Str → Bool
  | .nil, kws, ks => (match kws, ks with | [], [] => true | _, _ => false)
  | .cons e es, kws, ks => (match kws, ks with | ⟨some n, v, _⟩ :: kws, k :: ks => n == k && chkE sc e v && chkKw sc es kws ks | _, _ => false)
def chkO (sc : Scope) : Eo → Option Expr → Bool
  | .no, v => (match v with | none => true | _ => false)
  | .so e, v => (match v with | some v => chkE sc e v | none => false)
def chkC (sc : Scope) : Eo → List Expr → Bool
  | .no, vs => (match vs with | [] => true | _ => false)
  | .so e, vs => (match vs with | [v] => chkE sc e v | _ => false)
def chkL (sc : Scope) : L → Expr → Bool
  | .disp es, e => (match e with | .List xs _ => chkEs sc es xs | _ => false)
  | .comp own t it c elt, e => (match e with
    | .ListComp el [⟨tg, iter, ifs, 0⟩] scope _ => blkC N sc scope own && notSet iter && chkI sc it tg iter && chkG scope t tg && chkE scope elt el && chkC scope c ifs
    | _ => false)
  | .ofSeq a, e => (match e with | .Call (.Name x _) [v] [] _ => x == "list" && isGl sc x && notStar v && chkE sc a v | _ => false)
  | .cat a b, e => (match e with | .BinOp l .Add r _ => chkE sc a l && chkE sc b r | _ => false)
  | .rep a b, e => (match e with | .BinOp l .Mult r _ => chkE sc a l && chkE sc b r | _ => false)
  | .slice a lo hi, e => (match e with | .Subscript x (.Slice l h none _) _ => chkE sc a x && chkO sc lo l && chkO sc hi h | _ => false)
  | .sorted _, _ => false
  | .zipL a b, e => (match e with
    | .Call (.Name x _) [.Call (.Name y _) [v, u] [] _] [] _ => x == "list" && isGl sc x && y == "zip" && isGl sc y && notStar v && notStar u && chkE sc a v && chkE sc b u
    | _ => false)
/-- what is walked, with its target -/
def chkI (sc : Scope) : I → Expr → Expr → Bool
  | .lst a, _, e => chkE sc a e
  | .tup a, _, e => chkE sc a e
  | .str a, _, e => chkE sc a e
  | .rng1 a, _, e => (match e with | .Call (.Name x _) [v] [] _ => x == "range" && isGl sc x && notStar v && chkE sc a v | _ => false)
  | .rng2 a b, _, e => (match e with | .Call (.Name x _) [v, u] [] _ => x == "range" && isGl sc x && notStar v && notStar u && chkE sc a v && chkE sc b u | _ => false)
  | .enum a, tg, e => (match tg, e with | .Tuple _ _ _, .Call (.Name x _) [v] [] _ => x == "enumerate" && isGl sc x && notStar v && chkE sc a v | _, _ => false)
  | .zip a b, tg, e => (match tg, e with | .Tuple _ _ _, .Call (.Name x _) [v, u] [] _ => x == "zip" && isGl sc x && notStar v && notStar u && chkE sc a v && chkE sc b u | _, _ => false)
  | .zipT a b, tg, e => (match tg, e with | .Tuple _ _ _, .Call (.Name x _) [v, u] [] _ => x == "zip" && isGl sc x && notStar v && notStar u && chkE sc a v && chkE sc b u | _, _ => false)
  | .zipS a, tg, e => (match tg, e with | .Tuple _ _ _, .Call (.Name x _) [.Starred v _] [] _ => x == "zip" && isGl sc x && chkE sc a v | _, _ => false)
def chkG (sc : Scope) : Tgt → Expr → Bool
  | .nm i, e => (match e with | .Name x _ => decide (N[i]? = some x) && isLoc sc x | _ => false)
  | .tp ts, e => (match e with | .Tuple xs _ _ => chkGs sc ts xs | _ => false)
  | .sub o i, e => (match e with | .Subscript x y _ => notSlice y && chkE sc o x && chkE sc i y | _ => false)
def chkGs (sc : Scope) : Tgts → List Expr → Bool
  | .nil, vs => (match vs with | [] => true | _ => false)
  | .cons t ts, vs => (match vs with | v :: vs => notStar v && chkG sc t v && chkGs sc ts vs | [] => false)
end
end

/-! ### where one stands -/
structure Cok (k : Nat) (sc : Scope) (X : Cx) : Prop where
  nd : X.N.Nodup
  vis : ∀ x, isVis sc x = true → Vis X.env.scope x
  loc : ∀ x, isLoc sc x = true → L2.Loc X.env.scope x ∧ (X.fn x = true ∨ X.env.scope.names.lookup x = some .local)
  gl : ∀ x, isGl sc x = true → Gl X x
  cf : ∀ x, sc.names.lookup x = some .cell ∨ sc.names.lookup x = some .free → X.env.scope.names.lookup x = some .cell ∨ X.env.scope.names.lookup x = some .free
  calm : X.calm = true
  room1 : Room (k + 1) X.A
  gds : X.A.guards = some []
theorem Cok.room {k : Nat} {sc : Scope} {X : Cx} (C : Cok k sc X) : Room k X.A := C.room1.mono (Nat.le_succ k)
/-- what a def promises: what the machine does -/
def spI (K : PySem.W.Frag) (φ : Phi) (i n : Nat) : Sp := fun vs H Q _ => vs.length = n ∧ ∃ Hd ρ cs ds d cs', Sim K Hd ρ cs H ∧ DnL K Hd ρ ds vs ∧ φ i ds cs = some (d, cs') ∧ Post K Hd ρ H cs' d Q
/-- a def that is promised, with how it is bound -/
structure FnI (P : Program) (w : World) (K : PySem.W.Frag) (mg : Str → Option Value) (base : Heap) (φ : Phi) (k : Nat) (i : Nat) (f : Fi) (fd : FuncData) : Prop where
  kp : PySem.W.keepIn K (.ref f.addr) = true
  bd : Binds K fd f.ps []
  ok : FnG P w K mg base (L2.CX P w) k f.addr fd f.ps (spI K φ i f.ps.length)
/-- a class that is made by its name -/
structure MkI (K : PySem.W.Frag) (mg : Str → Option Value) (x : Str) (c : Addr) (f : Fi) : Prop where
  mkk : Mk K c f.addr
  at_ : mg x = some (.ref c)
  ndb : (x == ("__debug__" : Str)) = false
def permL {α : Type} (x : α) (pm : List Nat) (l : List α) : List α := pm.map fun j => l.getD j x
/-- keywords and defaults are bound so -/
structure KfOk (K : PySem.W.Frag) (fd : FuncData) (ps : List Str) (kf : Kf) : Prop where
  ln : ps.length = kf.pm.length
  bd : ∃ its : List Value, Vals (kf.dfs.map At.v) its ∧ ∀ (s : Shared) (us ws : List Value), K.In s.heap → us.length = kf.n → ws.length = kf.ks.length → BindsTo s fd ⟨us, kf.ks.zip ws⟩ (ps.zip (permL .none kf.pm (us ++ ws ++ its)))
structure Fx (P : Program) (w : World) (K : PySem.W.Frag) (mg : Str → Option Value) (base : Heap) (φ : Phi) (k : Nat) (tb : Tb) : Prop where
  fns : ∀ i f, tb.fis[i]? = some f → (∃ fd, FnI P w K mg base φ k i f fd) ∧ (f.top = true → mg f.name = some (.ref f.addr) ∧ (f.name == ("__debug__" : Str)) = false)
  flds : ∀ c f, (c, f) ∈ tb.flds → Cls K c ∧ NoAttr K c f
  prps : ∀ c f i, (c, f, i) ∈ tb.prps → Cls K c ∧ ∃ fi p, tb.fis[i]? = some fi ∧ PropOf K c f p fi.addr
  mths : ∀ c m i, (c, m, i) ∈ tb.mths → Cls K c ∧ ∃ fi, tb.fis[i]? = some fi ∧ Meth K c m fi.addr
  mks : ∀ x c i, (x, c, i) ∈ tb.mks → ∃ fi, tb.fis[i]? = some fi ∧ MkI K mg x c fi
  kbs : ∀ kf, kf ∈ tb.kbs → ∃ fi fd, tb.fis[kf.i]? = some fi ∧ FnI P w K mg base φ k kf.i fi fd ∧ KfOk K fd fi.ps kf
  ar : ∀ i f ds cs r, tb.fis[i]? = some f → φ i ds cs = some r → ds.length = f.ps.length
  gls : ∀ x d, (x, d) ∈ tb.gls → ∃ u v, mg x = some u ∧ RelV v u ∧ ∀ Hd ρ, Dn K Hd ρ d v
  gds : ∀ x ks ds, (x, ks, ds) ∈ tb.gds → ∃ a es n, mg x = some (.ref a) ∧ KDict K w a es n ∧ (∀ z d, getF ks ds z = some d → ∃ u v, PySem.W.nsIn K a z = some (some u) ∧ RelV v u ∧ ∀ Hd ρ, Dn K Hd ρ d v) ∧
    ∀ z, ∃ r, PySem.W.nsIn K a z = some r ∧ r.isSome = ks.contains z
  blt : ∀ x ∈ ["len", "abs", "max", "min", "int", "divmod", "tuple", "all", "any", "sum", "repr", "isinstance", "str", "list", "range", "enumerate", "zip", "bool", "dict"], mg (Str.ofString x) = none
def EK (K : PySem.W.Frag) (σ : L2.St) (Hd : Hp) (ρ : List Addr) (env : Sl) : Prop := env.length = σ.length ∧ ∀ (i : Nat) (d : D), env[i]? = some (some d) → ∃ v, σ[i]? = some (some v) ∧ Dn K Hd ρ d v
section
variable {K : PySem.W.Frag} {σ : L2.St} {Hd Hd' H H' : Hp} {ρ ρ' : List Addr} {env : Sl}
theorem EK.mono (h : EK K σ Hd ρ env) (e : Ext Hd ρ Hd' ρ') : EK K σ Hd' ρ' env := ⟨h.1, fun i d q => let ⟨v, a, b⟩ := h.2 i d q; ⟨v, a, Dn.mono e d v b⟩⟩
theorem EK.step (h : EK K σ Hd ρ env) (s : Step Hd ρ H Hd' ρ' H') : EK K σ Hd' ρ' env := h.mono s.ext
theorem EK.put {i : Nat} {d : D} {v : V} (h : EK K σ Hd ρ env) (r : Dn K Hd ρ d v) : EK K (σ.set i (some v)) Hd ρ (env.set i (some d)) := by
  refine ⟨by rw [List.length_set, List.length_set, h.1], fun j x q => ?_⟩
  by_cases hj : i = j
  · subst hj
    have hl : i < env.length := by
      have := (List.getElem?_eq_some_iff.mp q).1
      simpa using this
    rw [List.getElem?_set_self hl] at q
    cases q
    exact ⟨v, List.getElem?_set_self (h.1 ▸ hl), r⟩
  · rw [List.getElem?_set_ne hj] at q
    rw [List.getElem?_set_ne hj]
    exact h.2 j x q
theorem EK.wipe1 (h : EK K σ Hd ρ env) (i : Nat) : EK K (σ.set i none) Hd ρ (env.set i none) := by
  refine ⟨by rw [List.length_set, List.length_set, h.1], fun j x q => ?_⟩
  by_cases hj : i = j
  · subst hj
    have hl : i < env.length := by
      have := (List.getElem?_eq_some_iff.mp q).1
      simpa using this
    rw [List.getElem?_set_self hl] at q
    cases q
  · rw [List.getElem?_set_ne hj] at q
    rw [List.getElem?_set_ne hj]
    exact h.2 j x q
theorem EK.wipe (h : EK K σ Hd ρ env) : ∀ vs : List Nat, EK K (L2.wipe σ vs) Hd ρ (wipeE env vs)
  | [] => h
  | v :: vs => (EK.wipe h vs).wipe1 v
end

/-! ### the readings -/
section
variable (K : PySem.W.Frag) (φ : Phi)
def tE (ce : E) : TE := fun σ H Q => ∃ Hd ρ env cs d cs', Sim K Hd ρ cs H ∧ EK K σ Hd ρ env ∧ evE φ ce env cs = some (d, cs') ∧ Post K Hd ρ H cs' d Q
def PostB (Hd : Hp) (ρ : List Addr) (H : Hp) (cs' : Cells) (b : Bool) (Q : Bool → Hp → Prop) : Prop := ∀ Hd' ρ' H', Step Hd ρ H Hd' ρ' H' → Sim K Hd' ρ' cs' H' → Q b H'
def tT (ce : E) : TT := fun σ H Q => ∃ Hd ρ env cs b cs', Sim K Hd ρ cs H ∧ EK K σ Hd ρ env ∧ evT φ ce env cs = some (b, cs') ∧ PostB K Hd ρ H cs' b Q
def tTA (es : Es) : TT := fun σ H Q => ∃ Hd ρ env cs b cs', Sim K Hd ρ cs H ∧ EK K σ Hd ρ env ∧ evTA φ es env cs = some (b, cs') ∧ PostB K Hd ρ H cs' b Q
def tTO (es : Es) : TT := fun σ H Q => ∃ Hd ρ env cs b cs', Sim K Hd ρ cs H ∧ EK K σ Hd ρ env ∧ evTO φ es env cs = some (b, cs') ∧ PostB K Hd ρ H cs' b Q
def tAnd' (es : Es) : TE := fun σ H Q => ∃ Hd ρ env cs d cs', Sim K Hd ρ cs H ∧ EK K σ Hd ρ env ∧ evAnd φ es env cs = some (d, cs') ∧ Post K Hd ρ H cs' d Q
def tOr' (es : Es) : TE := fun σ H Q => ∃ Hd ρ env cs d cs', Sim K Hd ρ cs H ∧ EK K σ Hd ρ env ∧ evOr φ es env cs = some (d, cs') ∧ Post K Hd ρ H cs' d Q
def tC' (c : Eo) : TT := fun σ H Q => ∃ Hd ρ env cs b cs', Sim K Hd ρ cs H ∧ EK K σ Hd ρ env ∧ evC φ c env cs = some (b, cs') ∧ PostB K Hd ρ H cs' b Q
def tEs (es : Es) : TA := fun σ H Q => ∃ Hd ρ env cs ds cs', Sim K Hd ρ cs H ∧ EK K σ Hd ρ env ∧ evEs φ es env cs = some (ds, cs') ∧ ∀ Hd' ρ' H' vs, Step Hd ρ H Hd' ρ' H' → Sim K Hd' ρ' cs' H' → DnL K Hd' ρ' ds vs → Q vs H'
def tO (o : Eo) : TO := fun σ H Q => ∃ Hd ρ env cs n cs', Sim K Hd ρ cs H ∧ EK K σ Hd ρ env ∧ evO φ o env cs = some (n, cs') ∧ ∀ Hd' ρ' H', Step Hd ρ H Hd' ρ' H' → Sim K Hd' ρ' cs' H' → Q n H'
/-- a new list -/
def tL (l : L) : TE := fun σ H Q => ∃ Hd ρ env cs ds cs', Sim K Hd ρ cs H ∧ EK K σ Hd ρ env ∧ evL φ l env cs = some (ds, cs') ∧
  ∀ Hd' ρ' H' p vs, Step Hd ρ H Hd' ρ' H' → Sim K Hd' ρ' cs' H' → H p = none → Hd' p = none → p ∉ ρ' → H' p = some (.lst vs) → DnL K Hd' ρ' ds vs → Q (.ref p) H'
/-- it walks over these things -/
def Walks (J : It) (Hd : Hp) (ρ : List Addr) (src : Src) : Prop := ∀ Hd1 ρ1 H1 cs1, Ext Hd ρ Hd1 ρ1 → Sim K Hd1 ρ1 cs1 H1 → ∀ i : Nat,
  (src.at_ cs1 i = some none → J.stop i H1) ∧ ∀ d, src.at_ cs1 i = some (some d) → J.go i H1 ∧ ∀ x H2, J.yld i H1 x H2 → ∃ Hd2 ρ2, Step Hd1 ρ1 H1 Hd2 ρ2 H2 ∧ Sim K Hd2 ρ2 cs1 H2 ∧ Dn K Hd2 ρ2 d x
def tI (it : I) : TI := fun σ H R => ∃ Hd ρ env cs src cs', Sim K Hd ρ cs H ∧ EK K σ Hd ρ env ∧ evI φ it env cs = some (src, cs') ∧ ∀ J Hd' ρ' H', Step Hd ρ H Hd' ρ' H' → Sim K Hd' ρ' cs' H' → Walks K J Hd' ρ' src → R J H'
def tG (t : Tgt) : TG := fun v σ H Q => ∃ Hd ρ env cs d env' cs', Sim K Hd ρ cs H ∧ EK K σ Hd ρ env ∧ Dn K Hd ρ d v ∧ evG φ t d env cs = some (env', cs') ∧
  ∀ Hd' ρ' H' σ', Step Hd ρ H Hd' ρ' H' → Sim K Hd' ρ' cs' H' → EK K σ' Hd' ρ' env' → (∀ vs : List Nat, tgtIn vs t = true → L2.wipe σ' vs = L2.wipe σ vs) → Q σ' H'
def tGs (ts : Tgts) : TGs := fun vs σ H Q => ∃ Hd ρ env cs ds env' cs', Sim K Hd ρ cs H ∧ EK K σ Hd ρ env ∧ DnL K Hd ρ ds vs ∧ evGs φ ts ds env cs = some (env', cs') ∧
  ∀ Hd' ρ' H' σ', Step Hd ρ H Hd' ρ' H' → Sim K Hd' ρ' cs' H' → EK K σ' Hd' ρ' env' → (∀ vs : List Nat, tgtsIn vs ts = true → L2.wipe σ' vs = L2.wipe σ vs) → Q σ' H'
end
theorem PE.imp {X : Cx} {e : Expr} {t t' : TE} (h : PE X e t) (i : ∀ σ H Q, t' σ H Q → t σ H Q) : PE X e t' := ⟨fun pins s σ H Q I q => h.run pins s σ H Q I (i _ _ _ q)⟩
theorem PT.imp {X : Cx} {e : Expr} {t t' : TT} (h : PT X e t) (i : ∀ σ H Q, t' σ H Q → t σ H Q) : PT X e t' := ⟨fun pins s σ H Q I q => h.run pins s σ H Q I (i _ _ _ q)⟩
theorem PW.imp {X : Cx} {e : Expr} {t t' : TT} (h : PW X e t) (i : ∀ σ H Q, t' σ H Q → t σ H Q) : PW X e t' := ⟨fun wh pins s σ H Q I q => h.run wh pins s σ H Q I (i _ _ _ q)⟩
theorem PA.imp {X : Cx} {e : List Expr} {t t' : TA} (h : PA X e t) (i : ∀ σ H Q, t' σ H Q → t σ H Q) : PA X e t' := ⟨fun pos pins s σ H Q I q => h.run pos pins s σ H Q I (i _ _ _ q)⟩
theorem PO.imp {X : Cx} {e : Option Expr} {t t' : TO} (h : PO X e t) (i : ∀ σ H Q, t' σ H Q → t σ H Q) : PO X e t' := ⟨fun pins s σ H Q I q => h.run pins s σ H Q I (i _ _ _ q)⟩
theorem PI.imp {X : Cx} {tg e : Expr} {t t' : TI} (h : PI X tg e t) (i : ∀ σ H Q, t' σ H Q → t σ H Q) : PI X tg e t' := ⟨fun pins s σ H Q I q => h.run pins s σ H Q I (i _ _ _ q)⟩
theorem PG.imp {X : Cx} {e : Expr} {t t' : TG} (h : PG X e t) (i : ∀ v σ H Q, t' v σ H Q → t v σ H Q) : PG X e t' := ⟨fun pins s σ H v u Q I r q => h.run pins s σ H v u Q I r (i _ _ _ _ q)⟩
theorem PGs.imp {X : Cx} {e : List Expr} {t t' : TGs} (h : PGs X e t) (i : ∀ v σ H Q, t' v σ H Q → t v σ H Q) : PGs X e t' := ⟨fun pins s σ H v u Q I r q => h.run pins s σ H v u Q I r (i _ _ _ _ q)⟩
theorem PS.imp {X : Cx} {e : Stmt} {t t' : TS} (h : PS X e t) (i : ∀ D σ H, t' D σ H → t D σ H) : PS X e t' := ⟨fun pins s σ H D I q => h.run pins s σ H D I (i _ _ _ q)⟩
theorem PSs.imp {X : Cx} {e : List Stmt} {t t' : TS} (h : PSs X e t) (i : ∀ D σ H, t' D σ H → t D σ H) : PSs X e t' := ⟨fun pins s σ H D I q => h.run pins s σ H D I (i _ _ _ q)⟩
theorem star_ok {e : Expr} (es : List Expr) {env : PySem.Env} (h : notStar e = true) : starEach (e :: es) env = (false, eval e env) :: starEach es env := by
  cases e <;> first | rfl | (simp [notStar] at h; done)
theorem back_ok {sc : Scope} {tb : Tb} {N : List Str} {env : PySem.Env} {pos : Pos} : ∀ (es : Es) (vs : List Expr), chkEs tb N sc es vs = true → (backTo pos (starEach vs env)).any (·.1) = false
  | .nil, vs, h => by
    cases vs with
    | nil => rfl
    | cons v vs => simp [chkEs] at h
  | .cons e es, vs, h => by
    cases vs with
    | nil => simp [chkEs] at h
    | cons v vs =>
      simp only [chkEs, Bool.and_eq_true] at h
      rw [star_ok vs h.1.1]
      have ih := back_ok (env := env) (pos := pos) es vs h.2
      simpa [backTo] using ih
theorem truth_ok {e : Expr} {env : PySem.Env} (h : plainT e = true) (whole : Sem Value) : isTrue e env whole = (do let v ← whole; standAt e.pos; holding [v] (truthy v)) := by
  cases e with
  | UnaryOp op x p => cases op <;> first | rfl | (simp [plainT] at h; done)
  | BoolOp _ _ _ => simp [plainT] at h
  | IfExp _ _ _ _ => simp [plainT] at h
  | Compare _ _ _ _ => simp [plainT] at h
  | _ => rfl
theorem swap_ok {e : Expr} {t : Option Expr} {l : Nat} {env : PySem.Env} (h : notComp e = true) : swapsWith e t l env = pure false := by
  cases e <;> first | rfl | (simp [notComp] at h; done)
theorem fold_ok {e : Expr} {env : PySem.Env} (h : notSet e = true) (x : Value) : foldedSetIterable e env x = pure x := by
  cases e <;> first | rfl | (simp [notSet] at h; done)
theorem behind_ok {e : Expr} {op : CmpOp} (h : notSet e = true) : behindInMarks op e = false := by
  cases e <;> first | rfl | (simp [notSet] at h; done)
theorem slice_ok {e : Expr} (h : notSlice e = true) (o i : Value) : subscripted e false o i = operate [o, i] (getItem o i) := by
  cases e <;> first | rfl | (simp [notSlice] at h; done)
theorem attr_ok {e : Expr} {nm : Str} {env : PySem.Env} (h : plainO e = true) : attributeBase e nm env (eval e env) = eval e env := by
  cases e with
  | Call f as ks p =>
    cases f with
    | Name x q =>
      cases as with
      | nil => cases ks with
        | nil => simp [plainO] at h
        | cons _ _ => rfl
      | cons _ _ => rfl
    | _ => rfl
  | _ => rfl
end Mc
set_option Elab.async false
set_option linter.all false
set_option maxRecDepth 100000
set_option maxHeartbeats 8000000
namespace Mc
open PySem PySem.Spec PyProof.Rows L2

/-! ### the block of a comprehension -/
theorem lookup_map (g : Str → NameKind → NameKind) : ∀ (l : List (Str × NameKind)) (x : Str), (l.map fun p => (p.1, g p.1 p.2)).lookup x = (l.lookup x).map (g x)
  | [], _ => rfl
  | (n, k) :: r, x => by
    rw [List.map_cons, List.lookup_cons, List.lookup_cons, lookup_map g r x]
    cases h : x == n with
    | true => rw [eq_of_beq h]; rfl
    | false => rfl
theorem relabel_lookup (scope : Scope) (env : PySem.Env) (x : Str) : (relabel scope env).names.lookup x = (scope.names.lookup x).map fun k => if (k == NameKind.free && env.scope.kind == .function && env.kindOf x == some .cell) = true then NameKind.cell else k := by
  have e : (relabel scope env).names = scope.names.map fun p => (p.1, (fun (n : Str) (k : NameKind) => if (k == NameKind.free && env.scope.kind == .function && env.kindOf n == some .cell) = true then NameKind.cell else k) p.1 p.2) := by
    unfold relabel
    simp only
    refine List.map_congr_left fun p _ => ?_
    obtain ⟨n, k⟩ := p
    simp only
    by_cases h : (k == NameKind.free && env.scope.kind == .function && env.kindOf n == some .cell) = true
    · rw [if_pos h, if_pos h]
    · rw [if_neg h, if_neg h]
  rw [e]
  exact lookup_map (fun (n : Str) (k : NameKind) => if (k == NameKind.free && env.scope.kind == .function && env.kindOf n == some .cell) = true then NameKind.cell else k) _ _
theorem Cok.blk {k : Nat} {sc : Scope} {X : Cx} (C : Cok k sc X) (scope : Scope) (s : Shared) (H : Hp) (Ca : Addr) (cl : List (Str × Addr)) (fp : List Addr) : Cok k scope (X.blk s H scope (compEnvC scope cl Ca X.env) fp) := by
  have lk : ∀ x, (compEnvC scope cl Ca X.env).scope.names.lookup x = (scope.names.lookup x).map fun k => if (k == NameKind.free && X.env.scope.kind == .function && X.env.kindOf x == some .cell) = true then NameKind.cell else k := relabel_lookup scope X.env
  refine ⟨C.nd, fun x h => ?_, fun x h => ?_, fun x h => ?_, fun x h => ?_, C.calm, C.room1, C.gds⟩
  · show Vis (compEnvC scope cl Ca X.env).scope x
    unfold isVis at h
    unfold Vis
    rw [lk]
    cases e : scope.names.lookup x with
    | none => rw [e] at h; cases h
    | some q =>
      rw [e] at h
      cases q with
      | «local» => exact .inl rfl
      | cell => exact .inr (.inl rfl)
      | free =>
        simp only [Option.map_some]
        split
        · exact .inr (.inl rfl)
        · exact .inr (.inr rfl)
      | _ => cases h
  · show L2.Loc (compEnvC scope cl Ca X.env).scope x ∧ ((scope.names.lookup x == some .cell) = true ∨ (compEnvC scope cl Ca X.env).scope.names.lookup x = some .local)
    unfold isLoc at h
    unfold L2.Loc
    rw [lk]
    cases e : scope.names.lookup x with
    | none => rw [e] at h; cases h
    | some q =>
      rw [e] at h
      cases q with
      | «local» => exact ⟨.inl rfl, .inr rfl⟩
      | cell => exact ⟨.inr rfl, .inl rfl⟩
      | _ => cases h
  · show (compEnvC scope cl Ca X.env).scope.names.lookup x = some .globalImplicit
    have e : scope.names.lookup x = some .globalImplicit := of_decide_eq_true h
    rw [lk, e]
    rfl
  · show (compEnvC scope cl Ca X.env).scope.names.lookup x = some .cell ∨ (compEnvC scope cl Ca X.env).scope.names.lookup x = some .free
    rw [lk]
    rcases h with e | e
    · rw [e]; exact .inl rfl
    · rw [e]
      simp only [Option.map_some]
      split
      · exact .inl rfl
      · exact .inr rfl

/-! ### two and three in a row -/
section
variable {K : PySem.W.Frag} {φ : Phi} {σ : L2.St} {Hd H : Hp} {ρ : List Addr} {env : Sl} {cs cs1 cs2 : Cells}
theorem tE.run {ce : E} {d : D} {Q : VK} (S : Sim K Hd ρ cs H) (ek : EK K σ Hd ρ env) (e : evE φ ce env cs = some (d, cs1)) (q : Post K Hd ρ H cs1 d Q) : tE K φ ce σ H Q := ⟨Hd, ρ, env, cs, d, cs1, S, ek, e, q⟩
theorem two {a b : E} {x y : D} {R : V → V → Hp → Prop} (S : Sim K Hd ρ cs H) (ek : EK K σ Hd ρ env) (e1 : evE φ a env cs = some (x, cs1)) (e2 : evE φ b env cs1 = some (y, cs2))
    (q : ∀ Hd' ρ' H' v u, Step Hd ρ H Hd' ρ' H' → Sim K Hd' ρ' cs2 H' → Dn K Hd' ρ' x v → Dn K Hd' ρ' y u → R v u H') : tE K φ a σ H fun v H1 => tE K φ b σ H1 fun u H2 => R v u H2 :=
  tE.run S ek e1 fun _ _ _ v s1 S1 r1 => tE.run S1 (ek.step s1) e2 fun _ _ _ u s2 S2 r2 => q _ _ _ v u (s1.trans s2) S2 (Dn.mono s2.ext _ _ r1) r2
/-- the new list of a rule -/
theorem newL {Hd' H' : Hp} {ρ' : List Addr} {p : Addr} {ds : List D} {vs : List V} {cs' : Cells} {Q : VK} (q : ∀ Hd' ρ' H' p vs, Step Hd ρ H Hd' ρ' H' → Sim K Hd' ρ' cs' H' → H p = none → Hd' p = none → p ∉ ρ' → H' p = some (.lst vs) → DnL K Hd' ρ' ds vs → Q (.ref p) H')
    (S0 : Sim K Hd ρ cs H) (s : Step Hd ρ H Hd' ρ' H') (S : Sim K Hd' ρ' cs' H') (r : DnL K Hd' ρ' ds vs) (hp : H' p = none) : Q (.ref p) (upd H' p (.lst vs)) :=
  q _ _ _ p vs (s.trans (step_other hp)) (S.other hp) (s.new S0 S hp) (S.free hp) (S.not_mem hp) upd_same r
theorem sub_wipe {σ : L2.St} {i : Nat} {v : Option V} : ∀ {vs : List Nat}, vs.contains i = true → L2.wipe (σ.set i v) vs = L2.wipe σ vs
  | [], h => by simp at h
  | a :: vs, h => by
    unfold L2.wipe
    by_cases hv : vs.contains i = true
    · rw [sub_wipe hv]
    · have e : a = i := by
        rw [List.contains_cons, Bool.or_eq_true] at h
        rcases h with h | h
        · exact (eq_of_beq h).symm
        · exact absurd h hv
      subst e
      have out : ∀ {ws : List Nat}, ¬ ws.contains a = true → L2.wipe (σ.set a v) ws = (L2.wipe σ ws).set a v := by
        intro ws
        induction ws with
        | nil => intro _; rfl
        | cons b ws ih =>
          intro hb
          rw [List.contains_cons, Bool.or_eq_true] at hb
          have hn : ¬ a = b := fun z => hb (.inl (by rw [z]; exact beq_self_eq_true b))
          have h2 : ¬ ws.contains a = true := fun z => hb (.inr z)
          unfold L2.wipe
          rw [ih h2, List.set_comm _ _ hn]
      rw [out hv, List.set_set]
end

/-! ### expressions -/
section
variable {φ : Phi} {k : Nat} {tb : Tb}
abbrev FxX (φ : Phi) (k : Nat) (tb : Tb) (X : Cx) : Prop := Fx X.prog X.w X.K X.mg X.base φ k tb
theorem Cok.hu {sc : Scope} {X : Cx} (C : Cok k sc X) : X.A.units + 70 < cLine := by have := C.room.un; omega
theorem biGo {X : Cx} {sc : Scope} {b : Bi} {x : Str} {p pos : Pos} {v : Expr} {vs : List Expr} {t : TA} (F : FxX φ k tb X) (C : Cok k sc X) (hx : x = biName b) (hg : Gl X x) (ha : PA X (v :: vs) t)
    (he : starEach (v :: vs) X.env = (false, eval v X.env) :: starEach vs X.env) (hpl : (backTo pos (starEach vs X.env)).any (·.1) = false) : PE X (.Call (.Name x p) (v :: vs) [] pos) (tCB (rBi X.K b) t) := by
  have r := bi_D C.calm C.gds C.hu b
  have bt := bi_boot b
  have hm : X.mg x = none := by
    subst hx
    cases b <;> exact F.blt _ (by decide)
  have hn : x ≠ "__name__" := by subst hx; cases b <;> decide
  have hd : (x == ("__debug__" : Str)) = false := by subst hx; cases b <;> decide
  subst hx
  cases b <;> first
    | exact pe_callB r hg hm bt ha hn hd he hpl
    | exact pe_callTy r hg hm bt ha hn hd he hpl
theorem ty_list {K : PySem.W.Frag} {Hd H : Hp} {ρ : List Addr} {cs : Cells} {n : Nat} {v : V} (S : Sim K Hd ρ cs H) (h : (match cs[n]? with | some (.lst _) => true | _ => false) = true) (r : Dn K Hd ρ (.ref n) v) : tyV K "list" v H := by
  obtain ⟨a, rfl, e2⟩ := dn_ref.mp r
  obtain ⟨c, e3, _, e4⟩ := S.at_cell e2
  rw [e3] at h
  cases c with
  | lst ys => obtain ⟨vs, q1, q2⟩ := e4; exact .inl ⟨rfl, vs, SqL.of q1⟩
  | dct _ _ => cases h
  | ins _ _ _ => cases h
/-- a built-in's method, by its facts -/
theorem mtGo {X : Cx} {sc : Scope} {m : Mt} {o : E} {es : Es} {ob : Expr} {args : List Expr} {ap cp : Pos} {T id : String} (pa : PlainAttrs T) (sl : Slot T (mtName m) id) (ty : typeOf (.builtin id) = pure (.type "method_descriptor")) (mr : MtR X id (rMt X.K m))
    (tv : ∀ {Hd H : Hp} {ρ : List Addr} {cs : Cells} {d : D} {v : V}, Sim X.K Hd ρ cs H → mtOk cs m d = true → Dn X.K Hd ρ d v → tyV X.K T v H)
    (hp : plainO ob = true) (hl : (ap.endLine == cp.line) = true) (ho : PE X ob (tE X.K φ o)) (ha : PA X args (tEs X.K φ es)) (hc : chkEs tb X.N sc es args = true) (h1 : args.length ≤ 1) :
    PE X (.Call (.Attribute ob (mtName m) ap) args [] cp) (tE X.K φ (.mt m o es)) := by
  have open_ : ∀ {σ : L2.St} {H : Hp} {Q : VK}, tE X.K φ (.mt m o es) σ H Q → tE X.K φ o σ H fun x H1 => tyV X.K T x H1 ∧ tEs X.K φ es σ H1 fun xs H2 => rMt X.K m x xs H2 Q := fun {σ H Q} q => by
    obtain ⟨Hd, ρ, env, cs, d, cs', S, ek, e, q⟩ := q
    simp only [evE] at e
    split at e
    · rename_i x cs1 e1
      split at e
      · rename_i ok
        split at e
        · rename_i ds cs2 e2
          exact tE.run S ek e1 fun _ _ _ v s1 S1 r1 => ⟨tv S1 ok r1, _, _, env, _, ds, cs2, S1, ek.step s1, e2, fun Hd2 ρ2 H2 vs s2 S2 r2 => ⟨Hd2, ρ2, cs2, x, ds, d, cs', S2, Dn.mono s2.ext _ _ r1, r2, e, q.step (s1.trans s2)⟩⟩
        · cases e
      · cases e
    · cases e
  match args, es, hc, h1, ha with
  | [], .nil, hc, h1, ha =>
    refine PE.imp (pe_bm0 pa sl ty mr ho (attr_ok hp) hl) fun σ H Q q => ?_
    obtain ⟨Hd, ρ, env, cs, d, cs', S, ek, e, q⟩ := open_ q
    refine ⟨Hd, ρ, env, cs, d, cs', S, ek, e, fun _ _ _ v s S' r => ?_⟩
    obtain ⟨t1, _, _, env2, _, ds, _, S2, ek2, e2, q2⟩ := q _ _ _ v s S' r
    simp only [evEs] at e2; cases e2
    exact ⟨t1, q2 _ _ _ [] (Step.refl _ _ _) S2 DnL.nil⟩
  | [a], .cons ce .nil, hc, h1, ha =>
    simp only [chkEs, Bool.and_eq_true] at hc
    exact PE.imp (pe_bm pa sl ty mr ho ha (attr_ok hp) (by rw [star_ok [] hc.1.1]; rfl) hl (star_ok [] hc.1.1) rfl) fun σ H Q q => open_ q
  | [], .cons _ _, hc, _, _ => simp [chkEs] at hc
  | [_], .nil, hc, _, _ => simp [chkEs] at hc
  | [_], .cons _ (.cons _ _), hc, _, _ => simp [chkEs] at hc
  | _ :: _ :: _, _, _, h1, _ => simp at h1
theorem wipe_at {σ : L2.St} {i : Nat} : ∀ {vs : List Nat}, (L2.wipe σ vs)[i]? = if vs.contains i = true then (if i < σ.length then some none else none) else σ[i]?
  | [] => by simp [L2.wipe]
  | v :: vs => by
    unfold L2.wipe
    by_cases h : v = i
    · subst h
      have e : (v :: vs).contains v = true := by simp
      rw [if_pos e]
      by_cases hl : v < σ.length
      · rw [if_pos hl, List.getElem?_set_self (by rw [wipe_length]; exact hl)]
      · rw [if_neg hl]
        exact List.getElem?_eq_none (by rw [List.length_set, wipe_length]; omega)
    · have e : (v :: vs).contains i = vs.contains i := by
        rw [List.contains_cons]
        have z : (i == v) = false := by simpa using fun q : i = v => h q.symm
        rw [z, Bool.false_or]
      rw [List.getElem?_set_ne h, wipe_at, e]
theorem wipe_idem {σ : L2.St} {vs : List Nat} : L2.wipe (L2.wipe σ vs) vs = L2.wipe σ vs := by
  apply List.ext_getElem?
  intro i
  rw [wipe_at, wipe_at]
  by_cases h : vs.contains i = true
  · rw [if_pos h, if_pos h, wipe_length]
  · rw [if_neg h, if_neg h]
theorem Step.chg {Hd H Hd1 H1 : Hp} {ρ ρ1 : List Addr} {p : Addr} {o : HO} (s : Step Hd ρ H Hd1 ρ1 H1) (h : H p = none) : Step Hd ρ H Hd1 ρ1 (upd H1 p o) := ⟨s.ext, fun a u h1 h2 h3 => by
  obtain ⟨q1, q2, q3⟩ := s.frame a u h1 h2 h3
  exact ⟨q1, q2, by rw [upd_ne (ne_of_none h1 h)]; exact q3⟩⟩
/-- a comprehension's walk -/
theorem compRun {K : PySem.W.Frag} {t : Tgt} {c : Eo} {elt : E} {vs : List Nat} {σ : L2.St} {Hd H Hd1 H1 : Hp} {ρ ρ1 : List Addr} {env : Sl} {cs1 cs' : Cells} {src : Src} {ds : List D} {n : Nat} {J : It} {D : Addr} {Q : VK} {f : Mc.D → Cells → Option (Option Mc.D × Cells)}
    (q : ∀ Hd' ρ' H' p vs, Step Hd ρ H Hd' ρ' H' → Sim K Hd' ρ' cs' H' → H p = none → Hd' p = none → p ∉ ρ' → H' p = some (.lst vs) → DnL K Hd' ρ' ds vs → Q (.ref p) H')
    (s1 : Step Hd ρ H Hd1 ρ1 H1) (S1 : Sim K Hd1 ρ1 cs1 H1) (ek : EK K σ Hd ρ env) (wk : Walks K J Hd1 ρ1 src) (hD : H1 D = none) (h0 : H D = none) (e : compGo src f n 0 [] cs1 = some (ds, cs'))
    (hf : ∀ d cs2 r, f d cs2 = some r → tgtIn vs t = true ∧ ∃ env1 cs3 b cs4, evG φ t d (wipeE env vs) cs2 = some (env1, cs3) ∧ evC φ c env1 cs3 = some (b, cs4) ∧
      ((b = true ∧ ∃ y cs5, evE φ elt env1 cs4 = some (y, cs5) ∧ r = (some y, cs5)) ∨ (b = false ∧ r = (none, cs4)))) :
    ∃ W : Nat → Nat → Hp → Prop, (∃ m, W 0 m (upd H1 D (.lst []))) ∧ ∀ i m H, W i m H →
      (J.stop i H ∧ Q (.ref D) H) ∨ (J.go i H ∧ ∃ Nx : Hp → Prop, (∀ H', Nx H' → ∃ m', m' < m ∧ W (i + 1) m' H') ∧ ∀ x H', J.yld i H x H' → tG K φ t x (L2.wipe σ vs) H' fun σ2 H2 => L2.wipe σ2 vs = L2.wipe σ vs ∧ tC' K φ c σ2 H2 fun b H3 =>
        if b = true then tE K φ elt σ2 H3 fun y H4 => ∃ acc, H4 D = some (.lst acc) ∧ acc.length < sizeLine ∧ Nx (upd H4 D (.lst (acc ++ [y]))) else Nx H3) := by
  refine ⟨fun i m H' => ∃ Hd' ρ' cs2 acc us, Step Hd ρ H Hd' ρ' H' ∧ Ext Hd1 ρ1 Hd' ρ' ∧ Sim K Hd' ρ' cs2 H' ∧ Hd' D = none ∧ D ∉ ρ' ∧ H' D = some (.lst us) ∧ DnL K Hd' ρ' acc us ∧
    compGo src f m i acc cs2 = some (ds, cs'), ⟨n, Hd1, ρ1, cs1, [], [], s1.trans (step_other hD), Ext.refl _ _, S1.other hD, S1.free hD, S1.not_mem hD, upd_same, DnL.nil, e⟩, ?_⟩
  rintro i m H' ⟨Hd', ρ', cs2, acc, us, st, xt, S', f1, f2, f3, ra, ego⟩
  obtain ⟨w1, w2⟩ := wk Hd' ρ' H' cs2 xt S' i
  cases m with
  | zero => simp [compGo] at ego
  | succ m =>
    simp only [compGo] at ego
    split at ego
    · rename_i d ha
      obtain ⟨go, yl⟩ := w2 _ ha
      refine .inr ⟨go, fun Hn => ∃ Hd' ρ' cs2 acc us, Step Hd ρ H Hd' ρ' Hn ∧ Ext Hd1 ρ1 Hd' ρ' ∧ Sim K Hd' ρ' cs2 Hn ∧ Hd' D = none ∧ D ∉ ρ' ∧ Hn D = some (.lst us) ∧ DnL K Hd' ρ' acc us ∧
        compGo src f m (i + 1) acc cs2 = some (ds, cs'), fun _ z => ⟨m, by omega, z⟩, fun x H2 hy => ?_⟩
      obtain ⟨Hd2, ρ2, s2, S2, r2⟩ := yl x H2 hy
      cases er : f d cs2 with
      | none => rw [er] at ego; simp at ego
      | some r =>
        obtain ⟨hin, env1, cs3, b, cs4, eG, eC, hb⟩ := hf _ _ _ er
        refine ⟨Hd2, ρ2, wipeE env vs, cs2, d, env1, cs3, S2, ((ek.step st).step s2).wipe vs, r2, eG, fun Hd3 ρ3 H3 σ3 s3 S3 ek3 wp => ⟨(wp vs hin).trans wipe_idem, ?_⟩⟩
        refine ⟨Hd3, ρ3, env1, cs3, b, cs4, S3, ek3, eC, fun Hd4 ρ4 H4 s4 S4 => ?_⟩
        have s24 := s2.trans (s3.trans s4)
        obtain ⟨g1, g2, g3⟩ := s24.frame D _ f3 f1 f2
        rcases hb with ⟨rfl, y, cs5, eE, rfl⟩ | ⟨rfl, rfl⟩
        · refine iteT ?_
          rw [er] at ego
          simp only at ego
          refine tE.run S4 (ek3.step s4) eE fun Hd5 ρ5 H5 v s5 S5 r5 => ?_
          obtain ⟨k1, k2, k3⟩ := s5.frame D _ g3 g1 g2
          split at ego
          · rename_i hc
            have s25 := s24.trans s5
            exact ⟨us, k3, by rw [ra.length]; exact cap_lt hc, Hd5, ρ5, cs5, acc ++ [y], us ++ [v], (st.trans s25).chg h0, xt.trans s25.ext, S5.chg k1 k2, k1, k2, upd_same, (DnL.mono s25.ext _ _ ra).app (DnL.cons r5 DnL.nil), ego⟩
          · cases ego
        · refine iteF ?_
          rw [er] at ego
          simp only at ego
          exact ⟨Hd4, ρ4, cs4, acc, us, st.trans s24, xt.trans s24.ext, S4, g1, g2, g3, DnL.mono s24.ext _ _ ra, ego⟩
    · rename_i ha
      cases ego
      exact .inl ⟨w1 ha, q Hd' ρ' H' D us st S' h0 f1 f2 f3 ra⟩
    · cases ego
/-! what is walked -/
theorem nth_none {α : Type} {ds : List α} {i : Nat} (h : ds[i]? = none) : ds.length ≤ i := by
  rcases Nat.lt_or_ge i ds.length with q | q
  · rw [List.getElem?_eq_getElem q] at h; cases h
  · exact q
/-- things that stand side by side, at the walk's own time -/
def Held (K : PySem.W.Frag) (Q : Hp → List V → Prop) (Hd : Hp) (ρ : List Addr) (src : Src) : Prop := ∀ Hd1 ρ1 H1 cs1, Ext Hd ρ Hd1 ρ1 → Sim K Hd1 ρ1 cs1 H1 → ∀ i r, src.at_ cs1 i = some r →
  ∃ vs, Q H1 vs ∧ match r with | none => vs.length ≤ i | some d => ∃ v, vs[i]? = some v ∧ Dn K Hd1 ρ1 d v
theorem held_frozen {K : PySem.W.Frag} {Q : Hp → List V → Prop} {Hd : Hp} {ρ : List Addr} {vs : List V} {ds : List D} (h : ∀ Hd1 ρ1 H1 cs1, Ext Hd ρ Hd1 ρ1 → Sim K Hd1 ρ1 cs1 H1 → Q H1 vs) (r : DnL K Hd ρ ds vs) : Held K Q Hd ρ (.fz ds) := fun Hd1 ρ1 H1 cs1 e S i x hx => by
  refine ⟨vs, h Hd1 ρ1 H1 cs1 e S, ?_⟩
  simp only [Src.at_, Option.some.injEq] at hx
  subst hx
  cases hd : ds[i]? with
  | none => show vs.length ≤ i; rw [r.length]; exact nth_none hd
  | some d =>
    obtain ⟨v, hv, rv⟩ := r.get hd
    exact ⟨v, hv, Dn.mono e _ _ rv⟩
theorem held_l {K : PySem.W.Frag} {Hd : Hp} {ρ : List Addr} {l : Addr} {vs : List V} {ds : List D} (h : SqL K Hd l vs) (r : DnL K Hd ρ ds vs) : Held K (fun H us => SqL K H l us) Hd ρ (.fz ds) := held_frozen (fun Hd1 ρ1 H1 cs1 e S => S.sub.seq (e.sub.seq h)) r
theorem held_t {K : PySem.W.Frag} {Hd : Hp} {ρ : List Addr} {l : Addr} {vs : List V} {ds : List D} (h : TupAt K Hd l vs) (r : DnL K Hd ρ ds vs) : Held K (fun H us => SqT K H l us) Hd ρ (.fz ds) := held_frozen (fun Hd1 ρ1 H1 cs1 e S => S.seqT (h.mono e.sub)) r
theorem held_c {K : PySem.W.Frag} {Hd : Hp} {ρ : List Addr} {l : Addr} {n : Nat} (h : ρ[n]? = some l) : Held K (fun H us => SqL K H l us) Hd ρ (.cl n) := fun Hd1 ρ1 H1 cs1 e S i r hr => by
  obtain ⟨t, et⟩ := e.pre
  have h1 : ρ1[n]? = some l := by rw [et, List.getElem?_append_left (List.getElem?_eq_some_iff.mp h).1]; exact h
  simp only [Src.at_] at hr
  split at hr
  · rename_i xs hx
    cases hr
    obtain ⟨_, vs, q1, q2⟩ := S.cell n l _ h1 hx
    refine ⟨vs, SqL.of q1, ?_⟩
    cases hd : xs[i]? with
    | none => show vs.length ≤ i; rw [DnL.length q2]; exact nth_none hd
    | some d => exact q2.get hd
  · cases hr
/-- a list, whichever it is -/
theorem held_src {K : PySem.W.Frag} {Hd H : Hp} {ρ : List Addr} {cs : Cells} {d : D} {v : V} {src : Src} (S : Sim K Hd ρ cs H) (h : srcL cs d = some src) (r : Dn K Hd ρ d v) : ∃ l, v = .ref l ∧ (∃ vs, SqL K H l vs) ∧ Held K (fun H us => SqL K H l us) Hd ρ src := by
  cases d <;> simp only [srcL] at h <;> try (cases h; done)
  · cases h
    obtain ⟨l, vs, rfl, h1, h2⟩ := dn_lst.mp r
    exact ⟨l, rfl, ⟨vs, SqL.of (S.sub _ _ h1)⟩, held_l (SqL.of h1) h2⟩
  · cases h
    obtain ⟨l, vs, rfl, h1, h2⟩ := dn_scr.mp r
    exact ⟨l, rfl, ⟨vs, S.sub.seq h1⟩, held_l h1 h2⟩
  · split at h
    · rename_i n _ xs hx; cases h
      obtain ⟨l, rfl, hl⟩ := dn_ref.mp r
      obtain ⟨_, vs, q1, q2⟩ := S.cell _ l _ hl hx
      exact ⟨l, rfl, ⟨vs, SqL.of q1⟩, held_c hl⟩
    · cases h
theorem walk_l {K : PySem.W.Frag} {Hd : Hp} {ρ : List Addr} {l : Addr} {src : Src} (h : Held K (fun H us => SqL K H l us) Hd ρ src) : Walks K (Itl K l) Hd ρ src := fun Hd1 ρ1 H1 cs1 e S i => by
  refine ⟨fun hi => h Hd1 ρ1 H1 cs1 e S i _ hi, fun d hd => ?_⟩
  obtain ⟨vs, hs, v, hv, rv⟩ := h Hd1 ρ1 H1 cs1 e S i _ hd
  exact ⟨⟨vs, v, hs, hv⟩, fun x H2 hy => ⟨Hd1, ρ1, by rw [hy.1]; exact Step.refl _ _ _, by rw [hy.1]; exact S, by
    have z := hy.2 vs hs
    rw [hv] at z; cases z
    exact rv⟩⟩
theorem walk_t {K : PySem.W.Frag} {Hd : Hp} {ρ : List Addr} {l : Addr} {src : Src} (h : Held K (fun H us => SqT K H l us) Hd ρ src) : Walks K (Itt K l) Hd ρ src := fun Hd1 ρ1 H1 cs1 e S i => by
  refine ⟨fun hi => h Hd1 ρ1 H1 cs1 e S i _ hi, fun d hd => ?_⟩
  obtain ⟨vs, hs, v, hv, rv⟩ := h Hd1 ρ1 H1 cs1 e S i _ hd
  exact ⟨⟨vs, v, hs, hv⟩, fun x H2 hy => ⟨Hd1, ρ1, by rw [hy.1]; exact Step.refl _ _ _, by rw [hy.1]; exact S, by
    have z := hy.2 vs hs
    rw [hv] at z; cases z
    exact rv⟩⟩
theorem walk_s {K : PySem.W.Frag} {Hd : Hp} {ρ : List Addr} (x : Str) : Walks K (Its x) Hd ρ (.fz (x.cps.toList.map fun c => .str ⟨#[c]⟩)) := fun Hd1 ρ1 H1 cs1 e S i => by
  simp only [Src.at_, Option.some.injEq]
  refine ⟨fun hi => by have q := nth_none hi; rw [List.length_map] at q; show x.cps.size ≤ i; simpa using q, fun d hd => ?_⟩
  rw [List.getElem?_map] at hd
  cases hc : x.cps.toList[i]? with
  | none => rw [hc] at hd; cases hd
  | some c =>
    rw [hc] at hd; cases hd
    have hl : i < x.cps.size := by simpa using (List.getElem?_eq_some_iff.mp hc).1
    exact ⟨hl, fun y H2 hy => ⟨Hd1, ρ1, by rw [hy.1]; exact Step.refl _ _ _, by rw [hy.1]; exact S, by
      obtain ⟨_, c', h1, h2⟩ := hy
      have z : x.cps.toList[i]? = some c' := by simpa using h1
      rw [hc] at z; cases z
      exact dn_str.mpr h2⟩⟩
theorem walk_r {K : PySem.W.Frag} {Hd : Hp} {ρ : List Addr} (lo : Int) (n : Nat) : Walks K (Itr lo n) Hd ρ (.fz (rngD lo n)) := fun Hd1 ρ1 H1 cs1 e S i => by
  simp only [Src.at_, Option.some.injEq]
  unfold rngD
  refine ⟨fun hi => by have q := nth_none hi; rw [List.length_map, List.length_range] at q; exact q, fun d hd => ?_⟩
  rw [List.getElem?_map] at hd
  cases hc : (List.range n)[i]? with
  | none => rw [hc] at hd; cases hd
  | some c =>
    rw [hc] at hd; cases hd
    obtain ⟨hl, hg⟩ := List.getElem?_eq_some_iff.mp hc
    rw [List.length_range] at hl
    rw [List.getElem_range] at hg
    subst hg
    exact ⟨hl, fun y H2 hy => ⟨Hd1, ρ1, by rw [hy.1]; exact Step.refl _ _ _, by rw [hy.1]; exact S, dn_int.mpr hy.2⟩⟩
theorem walk_e {K : PySem.W.Frag} {Hd : Hp} {ρ : List Addr} {l : Addr} {src : Src} (h : Held K (fun H us => SqL K H l us) Hd ρ src) : Walks K (Ite K l) Hd ρ (.en src) := fun Hd1 ρ1 H1 cs1 e S i => by
  simp only [Src.at_]
  refine ⟨fun hi => ?_, fun d hd => ?_⟩
  · split at hi
    · cases hi
    · rename_i ha; exact h Hd1 ρ1 H1 cs1 e S i _ ha
    · cases hi
  · split at hd
    · rename_i x ha; cases hd
      obtain ⟨vs, hs, v, hv, rv⟩ := h Hd1 ρ1 H1 cs1 e S i _ ha
      refine ⟨⟨vs, v, hs, hv⟩, fun y H2 hy => ?_⟩
      obtain ⟨T, z, rfl, hT, rfl, hz⟩ := hy
      have ez := hz vs hs
      rw [hv] at ez; cases ez
      exact ⟨upd Hd1 T (.tup [.int (i : Nat), v]), ρ1, step_frozen S hT, S.frozen hT, dn_tup.mpr ⟨T, _, rfl, .inl upd_same, DnL.cons (dn_int.mpr rfl) (DnL.cons (Dn.mono (ext_upd (S.free hT)) _ _ rv) DnL.nil)⟩⟩
    · cases hd
    · cases hd
theorem walk_z {K : PySem.W.Frag} {Hd : Hp} {ρ : List Addr} {l l2 : Addr} {s1 s2 : Src} (h : Held K (fun H us => SqL K H l us) Hd ρ s1) (h2 : Held K (fun H us => SqL K H l2 us) Hd ρ s2) : Walks K (Itz K l l2) Hd ρ (.zp s1 s2) := fun Hd1 ρ1 H1 cs1 e S i => by
  simp only [Src.at_]
  refine ⟨fun hi => ?_, fun d hd => ?_⟩
  · split at hi
    · cases hi
    · rename_i ha hb
      obtain ⟨vs, hs, q⟩ := h Hd1 ρ1 H1 cs1 e S i _ ha
      obtain ⟨us, hs2, _⟩ := h2 Hd1 ρ1 H1 cs1 e S i _ hb
      exact ⟨vs, us, hs, hs2, .inl q⟩
    · rename_i ha hb
      obtain ⟨vs, hs, _⟩ := h Hd1 ρ1 H1 cs1 e S i _ ha
      obtain ⟨us, hs2, q⟩ := h2 Hd1 ρ1 H1 cs1 e S i _ hb
      exact ⟨vs, us, hs, hs2, .inr q⟩
    · cases hi
  · split at hd
    · rename_i x y ha hb; cases hd
      obtain ⟨vs, hs, v, hv, rv⟩ := h Hd1 ρ1 H1 cs1 e S i _ ha
      obtain ⟨us, hs2, u, hu, ru⟩ := h2 Hd1 ρ1 H1 cs1 e S i _ hb
      refine ⟨⟨vs, us, v, u, hs, hs2, hv, hu⟩, fun w H2 hy => ?_⟩
      obtain ⟨T, z1, z2, rfl, hT, rfl, hz1, hz2⟩ := hy
      have ez := hz1 vs hs
      rw [hv] at ez; cases ez
      have ez := hz2 us hs2
      rw [hu] at ez; cases ez
      have xt := ext_upd (o := .tup [v, u]) (ρ := ρ1) (S.free hT)
      exact ⟨upd Hd1 T (.tup [v, u]), ρ1, step_frozen S hT, S.frozen hT, dn_tup.mpr ⟨T, _, rfl, .inl upd_same, DnL.cons (Dn.mono xt _ _ rv) (DnL.cons (Dn.mono xt _ _ ru) DnL.nil)⟩⟩
    · cases hd
    · cases hd
    · cases hd
theorem walk_zt {K : PySem.W.Frag} {Hd : Hp} {ρ : List Addr} {l l2 : Addr} {s1 s2 : Src} (h : Held K (fun H us => SqT K H l us) Hd ρ s1) (h2 : Held K (fun H us => SqT K H l2 us) Hd ρ s2) : Walks K (RZ.ItzT K l l2) Hd ρ (.zp s1 s2) := fun Hd1 ρ1 H1 cs1 e S i => by
  simp only [Src.at_]
  refine ⟨fun hi => ?_, fun d hd => ?_⟩
  · split at hi
    · cases hi
    · rename_i ha hb
      obtain ⟨vs, hs, q⟩ := h Hd1 ρ1 H1 cs1 e S i _ ha
      obtain ⟨us, hs2, _⟩ := h2 Hd1 ρ1 H1 cs1 e S i _ hb
      exact ⟨vs, us, hs, hs2, .inl q⟩
    · rename_i ha hb
      obtain ⟨vs, hs, _⟩ := h Hd1 ρ1 H1 cs1 e S i _ ha
      obtain ⟨us, hs2, q⟩ := h2 Hd1 ρ1 H1 cs1 e S i _ hb
      exact ⟨vs, us, hs, hs2, .inr q⟩
    · cases hi
  · split at hd
    · rename_i x y ha hb; cases hd
      obtain ⟨vs, hs, v, hv, rv⟩ := h Hd1 ρ1 H1 cs1 e S i _ ha
      obtain ⟨us, hs2, u, hu, ru⟩ := h2 Hd1 ρ1 H1 cs1 e S i _ hb
      refine ⟨⟨vs, us, v, u, hs, hs2, hv, hu⟩, fun w H2 hy => ?_⟩
      obtain ⟨T, z1, z2, rfl, hT, rfl, hz1, hz2⟩ := hy
      have ez := hz1 vs hs
      rw [hv] at ez; cases ez
      have ez := hz2 us hs2
      rw [hu] at ez; cases ez
      have xt := ext_upd (o := .tup [v, u]) (ρ := ρ1) (S.free hT)
      exact ⟨upd Hd1 T (.tup [v, u]), ρ1, step_frozen S hT, S.frozen hT, dn_tup.mpr ⟨T, _, rfl, .inl upd_same, DnL.cons (Dn.mono xt _ _ rv) (DnL.cons (Dn.mono xt _ _ ru) DnL.nil)⟩⟩
    · cases hd
    · cases hd
    · cases hd
theorem chrs_at {x : Str} {i : Nat} {d : D} (h : (chrs x)[i]? = some d) : ∃ c, x.cps[i]? = some c ∧ d = .str ⟨#[c]⟩ := by
  unfold chrs at h
  rw [List.getElem?_map] at h
  cases e : x.cps.toList[i]? with
  | none => rw [e] at h; cases h
  | some c => rw [e] at h; cases h; exact ⟨c, by simpa using e, rfl⟩
theorem chrs_end {x : Str} {i : Nat} (h : (chrs x)[i]? = none) : x.cps.size ≤ i := by
  unfold chrs at h
  rw [List.getElem?_eq_none_iff, List.length_map, Array.length_toList] at h
  exact h
theorem walk_zs {K : PySem.W.Frag} {Hd : Hp} {ρ : List Addr} (x y : Str) : Walks K (ItzS x y) Hd ρ (.zp (.fz (chrs x)) (.fz (chrs y))) := fun Hd1 ρ1 H1 cs1 e S i => by
  simp only [Src.at_]
  refine ⟨fun hi => ?_, fun d hd => ?_⟩
  · split at hi
    · cases hi
    · rename_i ha _
      exact .inl (chrs_end (Option.some.inj ha))
    · rename_i _ hb
      exact .inr (chrs_end (Option.some.inj hb))
    · cases hi
  · split at hd
    · rename_i z1 z2 ha hb; cases hd
      obtain ⟨c, hc, rfl⟩ := chrs_at (Option.some.inj ha)
      obtain ⟨c2, hc2, rfl⟩ := chrs_at (Option.some.inj hb)
      refine ⟨⟨(Array.getElem?_eq_some_iff.mp hc).1, (Array.getElem?_eq_some_iff.mp hc2).1⟩, fun w H2 hy => ?_⟩
      obtain ⟨T, c', d', rfl, hT, rfl, hz1, hz2⟩ := hy
      rw [hc] at hz1; cases hz1
      rw [hc2] at hz2; cases hz2
      exact ⟨upd Hd1 T (.tup [.str ⟨#[c]⟩, .str ⟨#[c2]⟩]), ρ1, step_frozen S hT, S.frozen hT, dn_tup.mpr ⟨T, _, rfl, .inl upd_same, DnL.cons (dn_str.mpr rfl) (DnL.cons (dn_str.mpr rfl) DnL.nil)⟩⟩
    · cases hd
    · cases hd
    · cases hd
theorem pairOf_ok {K : PySem.W.Frag} {Hd H : Hp} {ρ : List Addr} {cs : Cells} {d : D} {v : V} {x y : Str} (S : Sim K Hd ρ cs H) (h : pairOf cs d = some (x, y)) (r : Dn K Hd ρ d v) : ∃ a, v = .ref a ∧ (SqT K H a [.str x, .str y] ∨ SqL K H a [.str x, .str y]) := by
  have two : ∀ {vs : List V}, DnL K Hd ρ [.str x, .str y] vs → vs = [.str x, .str y] := fun q => by
    obtain ⟨v, u, rfl, h1, h2⟩ := dnl2 q
    rw [dn_str.mp h1, dn_str.mp h2]
  unfold pairOf at h
  split at h
  · rename_i a b hm
    cases h
    by_cases ht : ∃ xs, d = .tup xs
    · obtain ⟨xs, rfl⟩ := ht
      simp only [Option.some.injEq] at hm
      subst hm
      obtain ⟨a, vs, rfl, h1, h2⟩ := dn_tup.mp r
      rw [two h2] at h1
      exact ⟨a, rfl, .inl (S.seqT h1)⟩
    · have hs : seqOf cs d = some [.str x, .str y] := by
        cases d with
        | tup xs => exact absurd ⟨xs, rfl⟩ ht
        | _ => exact hm
      obtain ⟨a, vs, rfl, h1, h2⟩ := seqOf_ok S hs r
      rw [two h2] at h1
      exact ⟨a, rfl, .inr h1⟩
  · cases h
theorem frozenT {K : PySem.W.Frag} {ρ : List Addr} {cs : Cells} : ∀ (l : List (Addr × List V)) {Hd H : Hp}, Sim K Hd ρ cs H → (l.map (·.1)).Nodup → (∀ q ∈ l, H q.1 = none) → Sim K (updT Hd l) ρ cs (updT H l) ∧ Step Hd ρ H (updT Hd l) ρ (updT H l)
  | [], _, _, S, _, _ => ⟨S, Step.refl _ _ _⟩
  | p :: r, Hd, H, S, nd, h => by
    rw [List.map_cons, List.nodup_cons] at nd
    have hp := h p List.mem_cons_self
    have ih := frozenT r (S.frozen (o := .tup p.2) hp) nd.2 fun q hq => by
      have ne : q.1 ≠ p.1 := fun e => nd.1 (e ▸ List.mem_map_of_mem hq)
      rw [upd_ne ne]; exact h q (List.mem_cons_of_mem _ hq)
    exact ⟨ih.1, (step_frozen S hp).trans ih.2⟩
theorem updT_at : ∀ {l : List (Addr × List V)} {H : Hp} {p : Addr × List V}, (l.map (·.1)).Nodup → p ∈ l → updT H l p.1 = some (.tup p.2)
  | q :: r, H, p, nd, hp => by
    rw [List.map_cons, List.nodup_cons] at nd
    unfold updT
    rcases List.mem_cons.mp hp with e | e
    · subst e
      rw [updT_ne fun q hq (e : p.1 = q.1) => nd.1 (by rw [e]; exact List.mem_map_of_mem hq), upd_same]
    · exact updT_at nd.2 e
theorem dnl_zip {K : PySem.W.Frag} {H : Hp} {ρ : List Addr} : ∀ (xs ys : List Nat) (l : List (Addr × List V)), (∀ p ∈ l, H p.1 = some (.tup p.2)) → l.map (·.2) = List.zipWith (fun c d => [V.str ⟨#[c]⟩, V.str ⟨#[d]⟩]) xs ys →
    DnL K H ρ (List.zipWith (fun c d => D.tup [.str ⟨#[c]⟩, .str ⟨#[d]⟩]) xs ys) (l.map fun p => V.ref p.1)
  | [], ys, l, _, e => by
    simp at e; subst e; exact DnL.nil
  | x :: xs, [], l, _, e => by
    simp at e; subst e; exact DnL.nil
  | x :: xs, y :: ys, l, h, e => by
    cases l with
    | nil => simp at e
    | cons p r =>
      rw [List.map_cons, List.zipWith_cons_cons] at e
      have e1 := (List.cons.inj e).1
      have e2 := (List.cons.inj e).2
      refine DnL.cons (dn_tup.mpr ⟨p.1, p.2, rfl, .inl (h p List.mem_cons_self), ?_⟩) (dnl_zip xs ys r (fun q hq => h q (List.mem_cons_of_mem _ hq)) e2)
      rw [e1]
      exact DnL.cons (dn_str.mpr rfl) (DnL.cons (dn_str.mpr rfl) DnL.nil)
theorem ix_kd {X : Cx} {d : Addr} {es : Array DictEntry} {n : Nat} (D : KDict X.K X.w d es n) : IxR X (fun x y H Q => ∃ (z : Str) (u0 : Value) (v0 : V), x = .ref d ∧ y = .str z ∧ PySem.W.nsIn X.K d z = some (some u0) ∧ RelV v0 u0 ∧ Q v0 H) := fun value slice pins s σ H x y v u Q I rx ry h hs => by
  have g := op_item_kd D pins s σ H x y v u Q I rx ry h
  obtain ⟨z, u0, v0, rfl, rfl, _⟩ := h
  cases rx
  exact tail_any (T := "dict") (ops := [_, u]) (kd_type D I) PySem.F.slot_dict_getitem.lookup g hs
/-! targets -/
theorem each_cons {e : Expr} (es : List Expr) {env : PySem.Env} (h : notStar e = true) : (assignEach (e :: es) env).map (·.2) = assign e env :: (assignEach es env).map (·.2) := by
  cases e <;> first | rfl | (simp [notStar] at h; done)
theorem each_ok {tb : Tb} {N : List Str} {sc : Scope} {env : PySem.Env} : ∀ (ts : Tgts) (es : List Expr), chkGs tb N sc ts es = true → (assignEach es env).length = es.length ∧ (assignEach es env).findIdx? (·.1) = none
  | .nil, es, h => by
    match es, h with
    | [], h => exact ⟨rfl, rfl⟩
    | _ :: _, h => simp [chkGs] at h
  | .cons t ts, es, h => by
    match es, h with
    | e :: es, h =>
      simp only [chkGs, Bool.and_eq_true] at h
      obtain ⟨a, b⟩ := each_ok (env := env) ts es h.2
      have c : assignEach (e :: es) env = (false, assign e env) :: assignEach es env := by
        have hs := h.1.1
        cases e <;> first | rfl | (simp [notStar] at hs; done)
      rw [c]
      refine ⟨by rw [List.length_cons, List.length_cons, a], ?_⟩
      rw [List.findIdx?_cons, b]
      rfl
    | [], h => simp [chkGs] at h
def Tgts.len : Tgts → Nat
  | .nil => 0
  | .cons _ ts => ts.len + 1
theorem gs_len {tb : Tb} {N : List Str} {sc : Scope} : ∀ (ts : Tgts) (es : List Expr), chkGs tb N sc ts es = true → es.length = ts.len
  | .nil, es, h => by
    match es, h with
    | [], h => rfl
    | _ :: _, h => simp [chkGs] at h
  | .cons t ts, es, h => by
    match es, h with
    | e :: es, h =>
      simp only [chkGs, Bool.and_eq_true] at h
      rw [List.length_cons, gs_len ts es h.2]; rfl
    | [], h => simp [chkGs] at h
theorem gs_lenD : ∀ (ts : Tgts) (ds : List D) (env : Sl) (cs : Cells) (env' : Sl) (cs' : Cells), evGs φ ts ds env cs = some (env', cs') → ds.length = ts.len
  | .nil, ds, env, cs, env', cs', h => by
    cases ds with
    | nil => rfl
    | cons _ _ => simp [evGs] at h
  | .cons t ts, ds, env, cs, env', cs', h => by
    cases ds with
    | nil => simp [evGs] at h
    | cons d ds =>
      simp only [evGs] at h
      split at h
      · rw [List.length_cons, gs_lenD ts ds _ _ _ _ h]; rfl
      · cases h
theorem sub_asg {o i : Expr} {pos : Pos} {env : PySem.Env} (h : notSlice i = true) (v : Value) : assign (.Subscript o i pos) env v = (do
      let ov ← holding [v] (eval o env)
      let iv ← holding [v, ov] (eval i env)
      standAt pos
      holding [v, ov, iv] (setItem ov iv v)
      release [v, ov, iv] []) := by
  cases i <;> first | rfl | (simp [notSlice] at h; done)
theorem passX {X : Cx} : Passes (L2.CX X.prog X.w) X E0 := fun _ _ _ _ _ _ _ c => by
  obtain ⟨_, _, _, _, _, _, _, _, _, _, _, _, z⟩ := c
  exact z.elim
theorem passX' {X : Cx} : Passes (L2.CX X.prog X.w) X.nox E0 := fun _ _ _ _ _ _ _ c => by
  obtain ⟨_, _, _, _, _, _, _, _, _, _, _, _, z⟩ := c
  exact z.elim
theorem meth_ht {o : Expr} {name : Str} {apos pos : Pos} {args : List Expr} {env : PySem.Env} (hp : plainO o = true) (hl : (apos.endLine == pos.line) = true) (hform : methodCallForm args.length (backTo pos (starEach args env)) [] = true) :
    eval (.Call (.Attribute o name apos) args [] pos) env = (do
      let ov ← eval o env
      standAt apos.atName
      let (f, first) ← holding [ov] (getMethod ov name (do return (← importBound o env).getD true))
      callWith pos f first (backTo pos (starEach args env)) (backToKw pos (keywordEach [] env))) := by
  rw [arm_eval_Call, attr_ok hp]
  have hf : methodCallForm (args.length + ([] : List Keyword).length) (backTo pos (starEach args env)) (backToKw pos (keywordEach [] env)) = true := hform
  have hpos : methodCallPos true o env apos pos = pure pos := by unfold methodCallPos; simp [hl]
  unfold methodCall
  rw [hf, hpos]
  rfl
theorem few_ok {env : PySem.Env} {pos : Pos} {vs : List Expr} (b : (backTo pos (starEach vs env)).any (·.1) = false) (h : vs.length < 30) : methodCallForm vs.length (backTo pos (starEach vs env)) [] = true := by
  unfold methodCallForm
  have h1 : (backTo pos (starEach vs env)).all (fun x => !x.1) = true := by
    rw [List.all_eq_true]
    intro x hx
    rw [List.any_eq_false] at b
    simpa using b x hx
  simp [h1, h]
theorem chnGo {X : Cx} {sc : Scope} {a b c : E} {p q' : CmpOp} {l r u : Expr} {pos : Pos} (C : Cok k sc X) (h3 : notSet u = true) (ha : PE X l (tE X.K φ a)) (hb : PE X r (tE X.K φ b)) (hc : PE X u (tE X.K φ c)) :
    PE X (.Compare l [p, q'] [r, u] pos) (tE X.K φ (.chn p q' a b c)) := by
  refine PE.imp (pe_chain (cmp_D p (by have := C.hu; omega)) (cmp_D q' (by have := C.hu; omega)) ha hb hc (behind_ok h3)) fun σ H Q q => ?_
  obtain ⟨Hd, ρ, env, cs, d, cs', S, ek, e, q⟩ := q
  simp only [evE] at e
  split at e
  · rename_i x cs1 e1
    split at e
    · rename_i y cs2 e2
      refine tE.run S ek e1 fun _ _ _ v s1 S1 r1 => tE.run S1 (ek.step s1) e2 fun _ _ _ u s2 S2 r2 => ?_
      split at e
      · rename_i e3
        refine ⟨_, _, cs2, x, y, .bl true, S2, Dn.mono s2.ext _ _ r1, r2, by simp only [cD, e3], fun _ _ _ w' s3 S3 r3 => ⟨true, dn_bl.mp r3, iteT ?_⟩⟩
        split at e
        · rename_i z cs3 e4
          split at e
          · rename_i k' e5; cases e
            exact tE.run S3 ((ek.step s1).step (s2.trans s3)) e4 fun _ _ _ t s4 S4 r4 => ⟨_, _, _, y, z, .bl k', S4, Dn.mono (s3.trans s4).ext _ _ r2, r4, by simp only [cD, e5], q.step (s1.trans (s2.trans (s3.trans s4)))⟩
          · cases e
        · cases e
      · rename_i e3; cases e
        exact ⟨_, _, cs', x, y, .bl false, S2, Dn.mono s2.ext _ _ r1, r2, by simp only [cD, e3], fun _ _ _ w' s3 S3 r3 => ⟨false, dn_bl.mp r3, iteF (q _ _ _ _ (s1.trans (s2.trans s3)) S3 (dn_bl.mpr rfl))⟩⟩
      · cases e
    · cases e
  · cases e
theorem fldGo {X : Cx} {a : E} {c : Addr} {nm : Str} {x : Expr} {pos : Pos} (F : FxX φ k tb X) (h2 : plainO x = true) (h3 : tb.flds.contains (c, nm) = true) (ha : PE X x (tE X.K φ a)) : PE X (.Attribute x nm pos) (tE X.K φ (.fld c nm a)) := by
  obtain ⟨g1, g2⟩ := F.flds c nm (List.contains_iff_mem.mp h3)
  refine PE.imp (pe_fld ha (attr_ok h2)) fun σ H Q q => ?_
  obtain ⟨Hd, ρ, env, cs, d, cs', S, ek, e, q⟩ := q
  simp only [evE] at e
  split at e
  · rename_i d1 cs1 e1
    split at e
    · rename_i c' ns vs e2
      split at e
      · rename_i hc; subst hc
        split at e
        · rename_i z e3; cases e
          refine tE.run S ek e1 fun _ _ _ v s1 S1 r1 => ?_
          obtain ⟨p, dx, us, rfl, k1, k2, k3⟩ := insOf_ok S1 e2 r1
          obtain ⟨u, k4, k5⟩ := getF_ok e3 k3
          exact ⟨p, c', dx, _, u, rfl, k1, g1, g2, k4, q _ _ _ _ s1 S1 k5⟩
        · cases e
      · cases e
    · cases e
  · cases e
theorem prpGo {X : Cx} {sc : Scope} {a : E} {c : Addr} {nm : Str} {i : Nat} {x : Expr} {pos : Pos} (F : FxX φ k tb X) (C : Cok k sc X) (h2 : plainO x = true) (h3 : tb.prps.contains (c, nm, i) = true) (ha : PE X x (tE X.K φ a)) : PE X (.Attribute x nm pos) (tE X.K φ (.prp c nm i a)) := by
  obtain ⟨g1, fi, p, g2, g3⟩ := F.prps c nm i (List.contains_iff_mem.mp h3)
  obtain ⟨⟨fd, g4, g5, g6⟩, _⟩ := F.fns i fi g2
  refine PE.imp (pe_propG (E := E0) ha g1 g3 g6 C.room1 C.gds g5 passX' (attr_ok h2)) fun σ H Q q => ?_
  obtain ⟨Hd, ρ, env, cs, d, cs', S, ek, e, q⟩ := q
  simp only [evE] at e
  split at e
  · rename_i d1 cs1 e1
    split at e
    · rename_i c' ns vs e2
      split at e
      · rename_i hc; subst hc
        refine tE.run S ek e1 fun _ _ _ v s1 S1 r1 => ?_
        obtain ⟨p, dx, us, rfl, k1, k2, k3⟩ := insOf_ok S1 e2 r1
        exact ⟨p, dx, _, rfl, k1, F.ar i fi _ _ _ g2 e, _, _, _, _, _, _, S1, DnL.cons r1 DnL.nil, e, q.step s1⟩
      · cases e
    · cases e
  · cases e
theorem mthGo {X : Cx} {sc : Scope} {o : E} {es : Es} {c : Addr} {nm : Str} {i : Nat} {ob : Expr} {args : List Expr} {ap pos : Pos} (F : FxX φ k tb X) (C : Cok k sc X) (h2 : plainO ob = true) (h3 : (ap.endLine == pos.line) = true) (h30 : args.length < 30)
    (h4 : tb.mths.contains (c, nm, i) = true) (h6 : chkEs tb X.N sc es args = true) (ho : PE X ob (tE X.K φ o)) (ha : PA X args (tEs X.K φ es)) : PE X (.Call (.Attribute ob nm ap) args [] pos) (tE X.K φ (.mth c nm i o es)) := by
  obtain ⟨g1, fi, g2, g3⟩ := F.mths c nm i (List.contains_iff_mem.mp h4)
  obtain ⟨⟨fd, g4, g5, g6⟩, _⟩ := F.fns i fi g2
  have open_ : ∀ {σ : L2.St} {H : Hp} {Q : VK}, tE X.K φ (.mth c nm i o es) σ H Q → tE X.K φ o σ H fun x H1 => ∃ a dx fs, x = .ref a ∧ H1 a = some (.ins c dx fs) ∧ fs.lookup nm = none ∧
      tEs X.K φ es σ H1 fun xs H2 => spI X.K φ i fi.ps.length (x :: xs) H2 Q E0 := fun {σ H Q} q => by
    obtain ⟨Hd, ρ, env, cs, d, cs', S, ek, e, q⟩ := q
    simp only [evE] at e
    split at e
    · rename_i d1 cs1 e1
      split at e
      · rename_i c' ns vs e2
        split at e
        · rename_i hc
          obtain ⟨hc, hm⟩ := hc
          subst hc
          split at e
          · rename_i ds cs2 e3
            refine tE.run S ek e1 fun _ _ _ v s1 S1 r1 => ?_
            obtain ⟨p, dx, us, rfl, k1, k2, k3⟩ := insOf_ok S1 e2 r1
            refine ⟨p, dx, _, rfl, k1, noF_ok hm, _, _, _, _, ds, cs2, S1, ek.step s1, e3, fun Hd2 ρ2 H2 ws s2 S2 r2 => ?_⟩
            have r3 := DnL.cons (Dn.mono s2.ext _ _ r1) r2
            exact ⟨by rw [r3.length]; exact F.ar i fi _ _ _ g2 e, _, _, _, _, _, _, S2, r3, e, q.step (s1.trans s2)⟩
          · cases e
        · cases e
      · cases e
    · cases e
  cases args with
  | nil =>
    cases es with
    | cons _ _ => simp [chkEs] at h6
    | nil =>
      refine PE.imp (pe_meth0G (E := E0) ho g1 g3 g6 C.room C.gds g5 passX (meth_ht h2 h3 rfl)) fun σ H Q q => ?_
      obtain ⟨Hd, ρ, env, cs, d, cs', S, ek, e, q⟩ := open_ q
      refine ⟨Hd, ρ, env, cs, d, cs', S, ek, e, fun _ _ _ v s S' r => ?_⟩
      obtain ⟨a, dx, fs, k1, k2, k3, _, _, env2, _, ds, _, S2, ek2, e2, q2⟩ := q _ _ _ v s S' r
      simp only [evEs] at e2; cases e2
      exact ⟨a, dx, fs, k1, k2, k3, q2 _ _ _ [] (Step.refl _ _ _) S2 DnL.nil⟩
  | cons v vs =>
    cases es with
    | nil => simp [chkEs] at h6
    | cons ce es' =>
      have h6' := h6
      simp only [chkEs, Bool.and_eq_true] at h6'
      have b := back_ok (env := X.env) (pos := pos) (.cons ce es') (v :: vs) h6
      exact PE.imp (pe_methG (E := E0) ho g1 g3 g6 C.room C.gds g5 passX ha (star_ok vs h6'.1.1) (back_ok es' vs h6'.2) (meth_ht h2 h3 (few_ok b h30))) fun σ H Q q => open_ q
theorem mkGo {X : Cx} {sc : Scope} {es : Es} {c : Addr} {x : Str} {i : Nat} {m : Bool} {v : Expr} {vs : List Expr} {px pos : Pos} (F : FxX φ k tb X) (C : Cok k sc X) (h1 : tb.mks.contains (x, c, i) = true) (hg : Gl X x)
    (h3 : chkEs tb X.N sc es (v :: vs) = true) (ha : PA X (v :: vs) (tEs X.K φ es)) : PE X (.Call (.Name x px) (v :: vs) [] pos) (tE X.K φ (.mk c i m es)) := by
  obtain ⟨fi, g2, g3⟩ := F.mks x c i (List.contains_iff_mem.mp h1)
  obtain ⟨⟨fd, g4, g5, g6⟩, _⟩ := F.fns i fi g2
  cases es with
  | nil => simp [chkEs] at h3
  | cons ce es' =>
    have h3' := h3
    simp only [chkEs, Bool.and_eq_true] at h3'
    refine PE.imp (pe_makeG (E := E0) g3.mkk g6 C.room1 C.gds hg g3.at_ g5 passX ha g3.ndb (star_ok vs h3'.1.1) (back_ok es' vs h3'.2)) fun σ H Q q => ?_
    obtain ⟨Hd, ρ, env, cs, d, cs', S, ek, e, q⟩ := q
    simp only [evE] at e
    split at e
    · rename_i ds cs1 e1
      split at e
      · rename_i cs2 e2
        refine ⟨Hd, ρ, env, cs, ds, cs1, S, ek, e1, fun Hd' ρ' H' us s S' r => fun p dx hp hdx ne => ?_⟩
        have hp' : upd H' dx (.own p) p = none := by rw [upd_ne ne.symm]; exact hp
        have S1 := S'.other (o := .own p) hdx
        have S2 := S1.other (o := .ins c dx []) hp'
        have st1 := (step_other (Hd := Hd') (ρ := ρ') (o := .own p) hdx).trans (step_other (Hd := Hd') (ρ := ρ') (o := .ins c dx []) hp')
        have S3 := S2.push (c := .ins c [] []) (S'.free hp) (S'.not_mem hp) ⟨dx, [], upd_same, rfl, DnL.nil⟩
        have st2 := st1.push hp
        have x1 : Ext Hd' ρ' Hd' (ρ' ++ [p]) := ⟨Same.refl _, [p], rfl⟩
        have at_ : (ρ' ++ [p])[cs1.length]? = some p := by rw [← S'.len, List.getElem?_append_right (Nat.le_refl _)]; simp
        have r3 : DnL X.K Hd' (ρ' ++ [p]) (.ref cs1.length :: ds) (.ref p :: us) := DnL.cons (dn_ref.mpr ⟨p, rfl, at_⟩) (DnL.mono x1 _ _ r)
        refine ⟨by rw [r3.length]; exact F.ar i fi _ _ _ g2 e2, _, _, _, _, _, _, S3, r3, e2, fun Hd4 ρ4 H4 v4 s4 S4 r4 => ⟨dn_non.mp r4, ?_⟩⟩
        have st := st2.trans s4
        have rp : Dn X.K Hd4 ρ4 (.ref cs1.length) (.ref p) := dn_ref.mpr ⟨p, rfl, s4.ext.at at_⟩
        exact fin_post S' e (q.step s) _ _ _ _ st S4 rp
      · cases e
    · cases e
theorem truGo {X : Cx} {ce : E} {e : Expr} (tr : ∀ env cs b cs2, evT φ ce env cs = some (b, cs2) → ∃ z, evE φ ce env cs = some (z, cs2) ∧ truD cs2 z = some b) (ht : plainT e = true) (h : PE X e (tE X.K φ ce)) : PT X e (tT X.K φ ce) := by
  refine PT.imp (pt_truth h (truth_ok ht)) fun σ H Q q => ?_
  obtain ⟨Hd, ρ, env, cs, b, cs', S, ek, e, q⟩ := q
  obtain ⟨z, e1, e2⟩ := tr _ _ _ _ e
  exact tE.run S ek e1 fun _ _ _ v s1 S1 r1 => ⟨_, truD_ok S1 e2 r1, q _ _ _ s1 S1⟩
theorem trT_fld {c : Addr} {f : Str} {a : E} {env : Sl} {cs cs2 : Cells} {b : Bool} (e : evT φ (.fld c f a) env cs = some (b, cs2)) : ∃ z, evE φ (.fld c f a) env cs = some (z, cs2) ∧ truD cs2 z = some b := by
  simp only [evT] at e
  simp only [evE]
  split at e
  · split at e
    · split at e
      · rename_i hc
        split at e
        · rename_i z e3
          split at e
          · rename_i b' e4; cases e
            exact ⟨z, by rw [if_pos hc], e4⟩
          · cases e
        · cases e
      · cases e
    · cases e
  · cases e
theorem trT_prp {c : Addr} {f : Str} {i : Nat} {a : E} {env : Sl} {cs cs2 : Cells} {b : Bool} (e : evT φ (.prp c f i a) env cs = some (b, cs2)) : ∃ z, evE φ (.prp c f i a) env cs = some (z, cs2) ∧ truD cs2 z = some b := by
  simp only [evT] at e
  simp only [evE]
  split at e
  · split at e
    · split at e
      · rename_i hc
        split at e
        · rename_i z cs3 e3
          split at e
          · rename_i b' e4; cases e
            exact ⟨z, by rw [if_pos hc, e3], e4⟩
          · cases e
        · cases e
      · cases e
    · cases e
  · cases e
theorem trT_mth {c : Addr} {m : Str} {i : Nat} {o : E} {es : Es} {env : Sl} {cs cs2 : Cells} {b : Bool} (e : evT φ (.mth c m i o es) env cs = some (b, cs2)) : ∃ z, evE φ (.mth c m i o es) env cs = some (z, cs2) ∧ truD cs2 z = some b := by
  simp only [evT] at e
  simp only [evE]
  split at e
  · split at e
    · split at e
      · rename_i hc
        split at e
        · rename_i ds cs3 e5
          split at e
          · rename_i z cs4 e3
            split at e
            · rename_i b' e4; cases e
              exact ⟨z, by rw [if_pos hc]; exact e3, e4⟩
            · cases e
          · cases e
        · cases e
      · cases e
    · cases e
  · cases e
theorem chnGoT {X : Cx} {sc : Scope} {a b c : E} {p q' : CmpOp} {l r u : Expr} {pos : Pos} (C : Cok k sc X) (h3 : notSet u = true) (ha : PE X l (tE X.K φ a)) (hb : PE X r (tE X.K φ b)) (hc : PE X u (tE X.K φ c)) :
    PT X (.Compare l [p, q'] [r, u] pos) (tT X.K φ (.chn p q' a b c)) := by
  refine PT.imp (pt_chain (cmp_D p (by have := C.hu; omega)) (cmp_D q' (by have := C.hu; omega)) ha hb hc (behind_ok h3)) fun σ H Q q => ?_
  obtain ⟨Hd, ρ, env, cs, d, cs', S, ek, e, q⟩ := q
  simp only [evT] at e
  split at e
  · rename_i x cs1 e1
    split at e
    · rename_i y cs2 e2
      refine tE.run S ek e1 fun _ _ _ v s1 S1 r1 => tE.run S1 (ek.step s1) e2 fun _ _ _ u s2 S2 r2 => ?_
      split at e
      · rename_i e3
        refine ⟨_, _, cs2, x, y, .bl true, S2, Dn.mono s2.ext _ _ r1, r2, by simp only [cD, e3], fun _ _ _ w' s3 S3 r3 => ⟨true, dn_bl.mp r3, iteT ?_⟩⟩
        split at e
        · rename_i z cs3 e4
          split at e
          · rename_i k' e5; cases e
            exact tE.run S3 ((ek.step s1).step (s2.trans s3)) e4 fun _ _ _ t s4 S4 r4 => ⟨_, _, _, y, z, .bl d, S4, Dn.mono (s3.trans s4).ext _ _ r2, r4, by simp only [cD, e5], fun _ _ _ w5 s5 S5 r5 => ⟨d, dn_bl.mp r5, q _ _ _ (s1.trans (s2.trans (s3.trans (s4.trans s5)))) S5⟩⟩
          · cases e
        · cases e
      · rename_i e3; cases e
        exact ⟨_, _, cs', x, y, .bl false, S2, Dn.mono s2.ext _ _ r1, r2, by simp only [cD, e3], fun _ _ _ w' s3 S3 r3 => ⟨false, dn_bl.mp r3, iteF ⟨false, rfl, q _ _ _ (s1.trans (s2.trans s3)) S3⟩⟩⟩
      · cases e
    · cases e
  · cases e
theorem vals_getD {vs : List V} {us : List Value} (r : Vals vs us) (j : Nat) : RelV (vs.getD j .non) (us.getD j .none) := by
  rw [List.getD_eq_getElem?_getD, List.getD_eq_getElem?_getD]
  cases e : vs[j]? with
  | some v =>
    obtain ⟨u, h1, h2⟩ := r.get e
    rw [h1]; exact h2
  | none =>
    have l := r.length
    have h : us[j]? = none := by
      rw [List.getElem?_eq_none_iff] at e ⊢
      omega
    rw [h]; rfl
theorem vals_permL {vs : List V} {us : List Value} (r : Vals vs us) : ∀ pm : List Nat, Vals (permL .non pm vs) (permL .none pm us)
  | [] => .nil
  | j :: js => .cons (vals_getD r j) (vals_permL r js)
theorem KfOk.kbn {K : PySem.W.Frag} {fd : FuncData} {ps : List Str} {kf : Kf} (h : KfOk K fd ps kf) : ∃ gg, KBn K fd ps kf.n kf.ks gg (fun vs zs => permL .non kf.pm (vs ++ zs ++ kf.dfs.map At.v)) := by
  obtain ⟨its, r, b⟩ := h.bd
  exact ⟨fun us ws => permL .none kf.pm (us ++ ws ++ its), ⟨b, fun r1 r2 => vals_permL ((r1.append r2).append r) _⟩⟩
theorem permD_ok {K : PySem.W.Frag} {Hd : Hp} {ρ : List Addr} {l : List D} {vs : List V} (r : DnL K Hd ρ l vs) : ∀ {pm : List Nat} {as : List D}, permD pm l = some as → DnL K Hd ρ as (permL .non pm vs)
  | [], as, h => by simp only [permD] at h; cases h; exact DnL.nil
  | j :: js, as, h => by
    simp only [permD] at h
    split at h
    · rename_i d r' h1 h2; cases h
      obtain ⟨v, h3, h4⟩ := r.get h1
      refine DnL.cons ?_ (permD_ok r h2)
      show Dn K Hd ρ d (vs.getD j V.non)
      rw [List.getD_eq_getElem?_getD, h3]
      exact h4
    · cases h
theorem at_ok {K : PySem.W.Frag} {Hd : Hp} {ρ : List Addr} : ∀ dfs : List At, DnL K Hd ρ (dfs.map At.d) (dfs.map At.v)
  | [] => DnL.nil
  | a :: r => DnL.cons (by cases a <;> (unfold Dn; rfl)) (at_ok r)
theorem kwc_ok {N : List Str} {sc : Scope} : ∀ (es : Es) (kws : List Keyword) (ks : List Str), chkKw tb N sc es kws ks = true → (kws.all fun k => (kwN k).isSome) = true ∧ kws.filterMap kwN = ks
  | .nil, kws, ks, h => by
    match kws, ks, h with
    | [], [], _ => exact ⟨rfl, rfl⟩
    | _ :: _, _, h => simp [chkKw] at h
    | [], _ :: _, h => simp [chkKw] at h
  | .cons e es, kws, ks, h => by
    match kws, ks, h with
    | ⟨some n, v, p⟩ :: kws, k :: ks, h =>
      simp only [chkKw, Bool.and_eq_true] at h
      obtain ⟨h1, h2⟩ := kwc_ok es kws ks h.2
      have en := eq_of_beq h.1.1
      subst en
      exact ⟨by rw [List.all_cons, h1]; rfl, by rw [List.filterMap_cons]; show n :: kws.filterMap kwN = n :: ks; rw [h2]⟩
    | ⟨none, v, p⟩ :: kws, _, h => simp [chkKw] at h
    | [], _, h => simp [chkKw] at h
    | ⟨some n, v, p⟩ :: kws, [], h => simp [chkKw] at h
theorem nilA {K : PySem.W.Frag} {X : Cx} {sc : Scope} {es : Es} {args : List Expr} (h : chkEs tb X.N sc es args = true) : args = [] → ∀ σ H Q, tEs K φ es σ H Q → Q [] H := fun e σ H Q q => by
  subst e
  cases es with
  | cons _ _ => simp [chkEs] at h
  | nil =>
    obtain ⟨Hd, ρ, env, cs, ds, cs', S, ek, e, q⟩ := q
    simp only [evEs] at e; cases e
    exact q _ _ _ [] (Step.refl _ _ _) S DnL.nil
theorem starA {X : Cx} {sc : Scope} {es : Es} {args : List Expr} (h : chkEs tb X.N sc es args = true) : ∀ e r, args = e :: r → starEach (e :: r) X.env = (false, eval e X.env) :: starEach r X.env := fun e r z => by
  subst z
  cases es with
  | nil => simp [chkEs] at h
  | cons ce es =>
    simp only [chkEs, Bool.and_eq_true] at h
    exact star_ok r h.1.1
theorem pk_nil' {X : Cx} {t : TA} (h : ∀ σ H Q, t σ H Q → Q [] H) : PK X [] t := ⟨fun pos pins s σ H Q I q => pk_nil.run pos pins s σ H Q I (h _ _ _ q)⟩
theorem pk_cons' {X : Cx} {ce : E} {es : Es} {n : Option Str} {v : Expr} {p : Pos} {kws : List Keyword} (ha : PE X v (tE X.K φ ce)) (hr : PK X kws (tEs X.K φ es)) : PK X (⟨n, v, p⟩ :: kws) (tEs X.K φ (.cons ce es)) := ⟨fun pos pins s σ H Q I q => (pk_cons ha hr).run pos pins s σ H Q I (by
  obtain ⟨Hd, ρ, env, cs, ds, cs', S, ek, e, q⟩ := q
  simp only [evEs] at e
  split at e
  · rename_i d cs1 e1
    split at e
    · rename_i ds' cs2 e2; cases e
      exact tE.run S ek e1 fun _ _ _ v s1 S1 r1 => ⟨_, _, _, _, ds', _, S1, ek.step s1, e2, fun Hd2 ρ2 H2 vs s2 S2 r2 => q _ _ _ _ (s1.trans s2) S2 (DnL.cons (Dn.mono s2.ext _ _ r1) r2)⟩
    · cases e
  · cases e)⟩
theorem callKGo {X : Cx} {sc : Scope} {kf : Kf} {es kw : Es} {args : List Expr} {kws : List Keyword} {x : Str} {px pos : Pos} (F : FxX φ k tb X) (C : Cok k sc X) (h1 : (match tb.fis[kf.i]? with | some fi => fi.name == x && fi.top | none => false) = true) (h2 : tb.kbs.contains kf = true) (hg : Gl X x)
    (h3 : chkEs tb X.N sc es args = true) (h4 : chkKw tb X.N sc kw kws kf.ks = true) (ha : PA X args (tEs X.K φ es)) (hk : PK X kws (tEs X.K φ kw)) : PE X (.Call (.Name x px) args kws pos) (tE X.K φ (.callK kf es kw)) := by
  obtain ⟨fi, fd, g1, ⟨g2, g3, g4⟩, g5⟩ := F.kbs kf (List.contains_iff_mem.mp h2)
  obtain ⟨gg, hb⟩ := g5.kbn
  rw [g1] at h1
  simp only [Bool.and_eq_true] at h1
  obtain ⟨g6, g7⟩ := (F.fns kf.i fi g1).2 h1.2
  have ex := eq_of_beq h1.1
  rw [ex] at g6 g7
  obtain ⟨k1, k2⟩ := kwc_ok kw kws kf.ks h4
  refine PE.imp (pe_callKG (E := E0) g4 C.room C.gds hg g6 g2 hb passX ha (nilA h3) (starA h3) (back_ok es args h3) hk k1 k2 g7) fun σ H Q q => ?_
  obtain ⟨Hd, ρ, env, cs, d, cs', S, ek, e, q⟩ := q
  simp only [evE] at e
  split at e
  · rename_i ds cs1 e1
    split at e
    · rename_i zs cs2 e2
      split at e
      · rename_i hl
        split at e
        · rename_i as e3
          refine ⟨Hd, ρ, env, cs, ds, cs1, S, ek, e1, fun Hd1 ρ1 H1 vs s1 S1 r1 => ⟨Hd1, ρ1, env, cs1, zs, cs2, S1, ek.step s1, e2, fun Hd2 ρ2 H2 us s2 S2 r2 => ?_⟩⟩
          have r3 := permD_ok (((DnL.mono s2.ext _ _ r1).app r2).app (at_ok kf.dfs)) e3
          exact ⟨by rw [r1.length]; exact hl.1, by rw [r2.length]; exact hl.2, by rw [r3.length]; exact F.ar kf.i fi _ _ _ g1 e, _, _, _, _, _, _, S2, r3, e, q.step (s1.trans s2)⟩
        · cases e
      · cases e
    · cases e
  · cases e
theorem meth_htK {o : Expr} {name : Str} {apos pos : Pos} {args : List Expr} {kws : List Keyword} {env : PySem.Env} (hp : plainO o = true) (hl : (apos.endLine == pos.line) = true) (hform : methodCallForm (args.length + kws.length) (backTo pos (starEach args env)) (backToKw pos (keywordEach kws env)) = true) :
    eval (.Call (.Attribute o name apos) args kws pos) env = (do
      let ov ← eval o env
      standAt apos.atName
      let (f, first) ← holding [ov] (getMethod ov name (do return (← importBound o env).getD true))
      callWith pos f first (backTo pos (starEach args env)) (backToKw pos (keywordEach kws env))) := by
  rw [arm_eval_Call, attr_ok hp]
  have hpos : methodCallPos true o env apos pos = pure pos := by unfold methodCallPos; simp [hl]
  unfold methodCall
  rw [hform, hpos]
  rfl
theorem few_okK {env : PySem.Env} {pos : Pos} {vs : List Expr} {kws : List Keyword} (b : (backTo pos (starEach vs env)).any (·.1) = false) (c : (backToKw pos (keywordEach kws env)).all (·.1.isSome) = true) (h : vs.length + kws.length + 1 < 30) :
    methodCallForm (vs.length + kws.length) (backTo pos (starEach vs env)) (backToKw pos (keywordEach kws env)) = true := by
  unfold methodCallForm
  have h1 : (backTo pos (starEach vs env)).all (fun x => !x.1) = true := by
    rw [List.all_eq_true]
    intro x hx
    rw [List.any_eq_false] at b
    simpa using b x hx
  rw [h1, c]
  simp only [Bool.true_and, decide_eq_true_eq]
  split <;> omega
theorem mthKGo {X : Cx} {sc : Scope} {o : E} {kf : Kf} {es kw : Es} {c : Addr} {nm : Str} {ob : Expr} {args : List Expr} {kws : List Keyword} {ap pos : Pos} (F : FxX φ k tb X) (C : Cok k sc X) (h2 : plainO ob = true) (h3 : (ap.endLine == pos.line) = true) (h30 : args.length + kws.length + 1 < 30)
    (h4 : tb.mths.contains (c, nm, kf.i) = true) (h5 : tb.kbs.contains kf = true) (h6 : chkEs tb X.N sc es args = true) (h7 : chkKw tb X.N sc kw kws kf.ks = true) (ho : PE X ob (tE X.K φ o)) (ha : PA X args (tEs X.K φ es)) (hk : PK X kws (tEs X.K φ kw)) :
    PE X (.Call (.Attribute ob nm ap) args kws pos) (tE X.K φ (.mthK c nm kf o es kw)) := by
  obtain ⟨g1, fi', gi, gm⟩ := F.mths c nm kf.i (List.contains_iff_mem.mp h4)
  obtain ⟨fi, fd, g2, ⟨_, g3, g4⟩, g5⟩ := F.kbs kf (List.contains_iff_mem.mp h5)
  rw [gi] at g2; cases g2
  obtain ⟨gg, hb⟩ := g5.kbn
  obtain ⟨k1, k2⟩ := kwc_ok kw kws kf.ks h7
  have b := back_ok (env := X.env) (pos := pos) es args h6
  refine PE.imp (pe_methKG (E := E0) ho g1 gm g4 C.room C.gds hb passX ha (nilA h6) (starA h6) b hk k1 k2 (meth_htK h2 h3 (few_okK b ((kw_all kws).trans k1) h30))) fun σ H Q q => ?_
  obtain ⟨Hd, ρ, env, cs, d, cs', S, ek, e, q⟩ := q
  simp only [evE] at e
  split at e
  · rename_i d1 cs1 e1
    split at e
    · rename_i c' ns vs e2
      split at e
      · rename_i hc
        obtain ⟨hc, hm⟩ := hc
        subst hc
        split at e
        · rename_i ds cs2 e3
          split at e
          · rename_i zs cs3 e4
            split at e
            · rename_i hl
              split at e
              · rename_i as e5
                refine tE.run S ek e1 fun _ _ _ v s1 S1 r1 => ?_
                obtain ⟨p, dx, us, rfl, k1, k2, k3⟩ := insOf_ok S1 e2 r1
                refine ⟨p, dx, _, rfl, k1, noF_ok hm, _, _, _, _, ds, cs2, S1, ek.step s1, e3, fun Hd2 ρ2 H2 ws s2 S2 r2 => ⟨Hd2, ρ2, env, cs2, zs, cs3, S2, (ek.step s1).step s2, e4, fun Hd3 ρ3 H3 us3 s3 S3 r3 => ?_⟩⟩
                have r4 := permD_ok (((DnL.cons (Dn.mono (s2.trans s3).ext _ _ r1) (DnL.mono s3.ext _ _ r2)).app r3).app (at_ok kf.dfs)) e5
                exact ⟨by rw [r2.length]; exact hl.1, by rw [r3.length]; exact hl.2, by rw [r4.length]; exact F.ar kf.i _ _ _ _ gi e, _, _, _, _, _, _, S3, r4, e, q.step (s1.trans (s2.trans s3))⟩
              · cases e
            · cases e
          · cases e
        · cases e
      · cases e
    · cases e
  · cases e
theorem mkKGo {X : Cx} {sc : Scope} {kf : Kf} {es kw : Es} {c : Addr} {x : Str} {m : Bool} {args : List Expr} {kws : List Keyword} {px pos : Pos} (F : FxX φ k tb X) (C : Cok k sc X) (h1 : tb.mks.contains (x, c, kf.i) = true) (h5 : tb.kbs.contains kf = true) (hg : Gl X x)
    (h3 : chkEs tb X.N sc es args = true) (h7 : chkKw tb X.N sc kw kws kf.ks = true) (ha : PA X args (tEs X.K φ es)) (hk : PK X kws (tEs X.K φ kw)) : PE X (.Call (.Name x px) args kws pos) (tE X.K φ (.mkK c kf m es kw)) := by
  obtain ⟨fi', gi, gm⟩ := F.mks x c kf.i (List.contains_iff_mem.mp h1)
  obtain ⟨fi, fd, g2, ⟨_, g3, g4⟩, g5⟩ := F.kbs kf (List.contains_iff_mem.mp h5)
  rw [gi] at g2; cases g2
  obtain ⟨gg, hb⟩ := g5.kbn
  obtain ⟨k1, k2⟩ := kwc_ok kw kws kf.ks h7
  refine PE.imp (pe_makeKG (E := E0) gm.mkk g4 C.room1 C.gds hg gm.at_ hb passX ha (nilA h3) (starA h3) (back_ok es args h3) hk k1 k2 gm.ndb) fun σ H Q q => ?_
  obtain ⟨Hd, ρ, env, cs, d, cs', S, ek, e, q⟩ := q
  simp only [evE] at e
  split at e
  · rename_i ds cs1 e1
    split at e
    · rename_i zs cs2 e4
      split at e
      · rename_i hl
        split at e
        · rename_i as e5
          split at e
          · rename_i cs3 e2
            refine ⟨Hd, ρ, env, cs, ds, cs1, S, ek, e1, fun Hd1 ρ1 H1 us1 s1 S1' r1 => ⟨Hd1, ρ1, env, cs1, zs, cs2, S1', ek.step s1, e4, fun Hd' ρ' H' us s2 S' r2 => ⟨by rw [r1.length]; exact hl.1, by rw [r2.length]; exact hl.2, fun p dx hp hdx ne => ?_⟩⟩⟩
            have hp' : upd H' dx (.own p) p = none := by rw [upd_ne ne.symm]; exact hp
            have S1 := S'.other (o := .own p) hdx
            have S2 := S1.other (o := .ins c dx []) hp'
            have st1 := (step_other (Hd := Hd') (ρ := ρ') (o := .own p) hdx).trans (step_other (Hd := Hd') (ρ := ρ') (o := .ins c dx []) hp')
            have S3 := S2.push (c := .ins c [] []) (S'.free hp) (S'.not_mem hp) ⟨dx, [], upd_same, rfl, DnL.nil⟩
            have st2 := st1.push hp
            have x1 : Ext Hd' ρ' Hd' (ρ' ++ [p]) := ⟨Same.refl _, [p], rfl⟩
            have at_ : (ρ' ++ [p])[cs2.length]? = some p := by rw [← S'.len, List.getElem?_append_right (Nat.le_refl _)]; simp
            have r0 : DnL X.K Hd' (ρ' ++ [p]) (.ref cs2.length :: ds) (.ref p :: us1) := DnL.cons (dn_ref.mpr ⟨p, rfl, at_⟩) (DnL.mono x1 _ _ (DnL.mono s2.ext _ _ r1))
            have r3 := permD_ok ((r0.app (DnL.mono x1 _ _ r2)).app (at_ok kf.dfs)) e5
            refine ⟨by rw [r3.length]; exact F.ar kf.i _ _ _ _ gi e2, _, _, _, _, _, _, S3, r3, e2, fun Hd4 ρ4 H4 v4 s4 S4 r4 => ⟨dn_non.mp r4, ?_⟩⟩
            have st := st2.trans s4
            have rp : Dn X.K Hd4 ρ4 (.ref cs2.length) (.ref p) := dn_ref.mpr ⟨p, rfl, s4.ext.at at_⟩
            exact fin_post S' e (q.step (s1.trans s2)) _ _ _ _ st S4 rp
          · cases e
        · cases e
      · cases e
    · cases e
  · cases e
theorem tb_len : bootBuiltins ("len" : Str) = some (.builtin "len") := bi_boot .len
theorem tb_repr : bootBuiltins ("repr" : Str) = some (.builtin "repr") := bi_boot .repr
theorem lenOGo {X : Cx} {sc : Scope} {a : E} {c : Addr} {i : Nat} {v : Expr} {px pos : Pos} (F : FxX φ k tb X) (C : Cok k sc X) (hg : Gl X "len") (h3 : notStar v = true) (h4 : tb.mths.contains (c, "__len__", i) = true) (ha : PE X v (tE X.K φ a)) :
    PE X (.Call (.Name "len" px) [v] [] pos) (tE X.K φ (.lenO c i a)) := by
  obtain ⟨g1, fi, g2, g3⟩ := F.mths c "__len__" i (List.contains_iff_mem.mp h4)
  obtain ⟨⟨fd, g4, g5, g6⟩, _⟩ := F.fns i fi g2
  refine PE.imp (pe_callB (call_lenO (E := E0) g6 g3 C.room1 C.gds g5 passX) hg (F.blt _ (by decide)) tb_len (pa_cons ha pa_nil (star_ok [] h3)) (by decide) (by decide) (star_ok [] h3) rfl) fun σ H Q q => ?_
  obtain ⟨Hd, ρ, env, cs, d, cs', S, ek, e, q⟩ := q
  simp only [evE] at e
  split at e
  · rename_i d1 cs1 e1
    split at e
    · rename_i c' ns vs e2
      split at e
      · rename_i hc; subst hc
        split at e
        · rename_i n cs2 e3
          split at e
          · rename_i hn; cases e
            refine tE.run S ek e1 fun _ _ _ v s1 S1 r1 => ?_
            obtain ⟨p, dx, us, rfl, k1, k2, k3⟩ := insOf_ok S1 e2 r1
            exact ⟨p, dx, _, rfl, k1, F.ar i fi _ _ _ g2 e3, _, _, _, _, _, _, S1, DnL.cons r1 DnL.nil, e3, fun _ _ _ w s2 S2 r2 => ⟨n, dn_int.mp r2, hn.1, hn.2, q _ _ _ _ (s1.trans s2) S2 (dn_int.mpr rfl)⟩⟩
          · cases e
        · cases e
      · cases e
    · cases e
  · cases e
theorem reprOGo {X : Cx} {sc : Scope} {a : E} {c : Addr} {i : Nat} {v : Expr} {px pos : Pos} (F : FxX φ k tb X) (C : Cok k sc X) (hg : Gl X "repr") (h3 : notStar v = true) (h4 : tb.mths.contains (c, "__repr__", i) = true) (ha : PE X v (tE X.K φ a)) :
    PE X (.Call (.Name "repr" px) [v] [] pos) (tE X.K φ (.reprO c i a)) := by
  obtain ⟨g1, fi, g2, g3⟩ := F.mths c "__repr__" i (List.contains_iff_mem.mp h4)
  obtain ⟨⟨fd, g4, g5, g6⟩, _⟩ := F.fns i fi g2
  refine PE.imp (pe_callB (call_reprO (E := E0) g6 g3 C.room1 C.gds g5 passX) hg (F.blt _ (by decide)) tb_repr (pa_cons ha pa_nil (star_ok [] h3)) (by decide) (by decide) (star_ok [] h3) rfl) fun σ H Q q => ?_
  obtain ⟨Hd, ρ, env, cs, d, cs', S, ek, e, q⟩ := q
  simp only [evE] at e
  split at e
  · rename_i d1 cs1 e1
    split at e
    · rename_i c' ns vs e2
      split at e
      · rename_i hc; subst hc
        split at e
        · rename_i n cs2 e3; cases e
          refine tE.run S ek e1 fun _ _ _ v s1 S1 r1 => ?_
          obtain ⟨p, dx, us, rfl, k1, k2, k3⟩ := insOf_ok S1 e2 r1
          exact ⟨p, dx, _, rfl, k1, F.ar i fi _ _ _ g2 e3, _, _, _, _, _, _, S1, DnL.cons r1 DnL.nil, e3, fun _ _ _ w s2 S2 r2 => ⟨n, dn_str.mp r2, q _ _ _ _ (s1.trans s2) S2 (dn_str.mpr rfl)⟩⟩
        · cases e
      · cases e
    · cases e
  · cases e
theorem eqO_open {K : PySem.W.Frag} {c : Addr} {i : Nat} {a b : E} {n : Nat} {σ : L2.St} {H : Hp} {Q : VK} {env : Sl} {cs cs' : Cells} {Hd : Hp} {ρ : List Addr} {z : Bool} (S : Sim K Hd ρ cs H) (ek : EK K σ Hd ρ env) (ar : ∀ ds cs r, φ i ds cs = some r → ds.length = n)
    (e : evT φ (.eqO c i a b) env cs = some (z, cs')) (q : PostB K Hd ρ H cs' z fun b H => Q (.bl b) H) :
    tE K φ a σ H fun x H1 => tE K φ b σ H1 fun y H2 => ∃ a b dx dy fs gs, x = .ref a ∧ y = .ref b ∧ H2 a = some (.ins c dx fs) ∧ H2 b = some (.ins c dy gs) ∧ spI K φ i n [.ref a, .ref b] H2 (fun v H3 => ∃ c, v = .bl c ∧ Q (.bl c) H3) E0 := by
  simp only [evT] at e
  split at e
  · rename_i x cs1 e1
    split at e
    · rename_i y cs2 e2
      split at e
      · rename_i c1 ns vs c2 ns2 vs2 h1 h2
        split at e
        · rename_i hc
          obtain ⟨k1, k2⟩ := hc
          subst k1
          subst k2
          split at e
          · rename_i kk cs3 e3; cases e
            refine tE.run S ek e1 fun _ _ _ v s1 S1 r1 => tE.run S1 (ek.step s1) e2 fun _ _ _ u s2 S2 r2 => ?_
            have r1' := Dn.mono s2.ext _ _ r1
            obtain ⟨p, dx, us, rfl, k1, k2, k3⟩ := insOf_ok S2 h1 r1'
            obtain ⟨p2, dx2, us2, rfl, k4, k5, k6⟩ := insOf_ok S2 h2 r2
            exact ⟨p, p2, dx, dx2, _, _, rfl, rfl, k1, k4, ar _ _ _ e3, _, _, _, _, _, _, S2, DnL.cons r1' (DnL.cons r2 DnL.nil), e3, fun _ _ _ w s3 S3 r3 => ⟨z, dn_bl.mp r3, q _ _ _ (s1.trans (s2.trans s3)) S3⟩⟩
          · cases e
        · cases e
      · cases e
    · cases e
  · cases e
theorem eqO_ET {c : Addr} {i : Nat} {a b : E} {env : Sl} {cs cs' : Cells} {d : D} (e : evE φ (.eqO c i a b) env cs = some (d, cs')) : ∃ z, d = .bl z ∧ evT φ (.eqO c i a b) env cs = some (z, cs') := by
  simp only [evE] at e
  simp only [evT]
  split at e
  · split at e
    · split at e
      · split at e
        · rename_i hc
          split at e
          · rename_i kk cs3 e3; cases e
            exact ⟨kk, rfl, by rw [if_pos hc]⟩
          · cases e
        · cases e
      · cases e
    · cases e
  · cases e
theorem eqOGo {X : Cx} {sc : Scope} {a b : E} {c : Addr} {i : Nat} {l r : Expr} {pos : Pos} (F : FxX φ k tb X) (C : Cok k sc X) (h3 : notSet r = true) (h4 : tb.mths.contains (c, "__eq__", i) = true) (ha : PE X l (tE X.K φ a)) (hb : PE X r (tE X.K φ b)) :
    PE X (.Compare l [.Eq] [r] pos) (tE X.K φ (.eqO c i a b)) ∧ PT X (.Compare l [.Eq] [r] pos) (tT X.K φ (.eqO c i a b)) := by
  obtain ⟨g1, fi, g2, g3⟩ := F.mths c "__eq__" i (List.contains_iff_mem.mp h4)
  obtain ⟨⟨fd, g4, g5, g6⟩, _⟩ := F.fns i fi g2
  have o := op_eqO (E := E0) g6 g3 C.room C.gds g5 passX
  refine ⟨PE.imp (pe_cmpR o ha hb (behind_ok h3)) fun σ H Q q => ?_, PT.imp (pt_cmpR o ha hb (behind_ok h3)) fun σ H Q q => ?_⟩
  · obtain ⟨Hd, ρ, env, cs, d, cs', S, ek, e, q⟩ := q
    obtain ⟨z, rfl, e'⟩ := eqO_ET e
    exact eqO_open S ek (fun ds cs r h => F.ar i fi ds cs r g2 h) e' fun _ _ _ s S' => q _ _ _ _ s S' (dn_bl.mpr rfl)
  · obtain ⟨Hd, ρ, env, cs, d, cs', S, ek, e, q⟩ := q
    exact eqO_open (Q := fun v H => ∃ k, v = .bl k ∧ Q k H) S ek (fun ds cs r h => F.ar i fi ds cs r g2 h) e fun _ _ _ s S' => ⟨d, rfl, q _ _ _ s S'⟩
mutual
theorem sE : ∀ (ce : E) (sc : Scope) (e : Expr) (X : Cx), FxX φ k tb X → Cok k sc X → chkE tb X.N sc ce e = true → PE X e (tE X.K φ ce)
  | .var i, sc, e, X, F, C, h => by
    cases e <;> simp only [chkE] at h <;> try (cases h; done)
    rename_i x pos
    simp only [Bool.and_eq_true, decide_eq_true_eq, Bool.not_eq_true'] at h
    obtain ⟨⟨⟨h1, h2⟩, h3⟩, h4⟩ := h
    refine PE.imp (pe_var h1 (C.vis x h2) h3 h4) fun σ H Q q => ?_
    obtain ⟨Hd, ρ, env, cs, d, cs', S, ek, e, q⟩ := q
    simp only [evE] at e
    split at e
    · rename_i d' hd; cases e
      obtain ⟨v, e1, e2⟩ := ek.2 i _ hd
      exact ⟨v, e1, q.here S e2⟩
    · cases e
  | .cst d, sc, e, X, F, C, h => by
    cases e <;> simp only [chkE] at h <;> try (cases h; done)
    rename_i c n pos
    cases c <;> (try simp only at h) <;> try (cases h; done)
    all_goals
      have e := atomEq_ok h
      subst e
    · refine PE.imp pe_non fun σ H Q q => ?_
      obtain ⟨Hd, ρ, env, cs, d, cs', S, ek, e, q⟩ := q
      simp only [evE] at e; cases e
      exact q.here S (dn_non.mpr rfl)
    · refine PE.imp pe_bl fun σ H Q q => ?_
      obtain ⟨Hd, ρ, env, cs, d, cs', S, ek, e, q⟩ := q
      simp only [evE] at e; cases e
      exact q.here S (dn_bl.mpr rfl)
    · refine PE.imp pe_int fun σ H Q q => ?_
      obtain ⟨Hd, ρ, env, cs, d, cs', S, ek, e, q⟩ := q
      simp only [evE] at e; cases e
      exact q.here S (dn_int.mpr rfl)
    · refine PE.imp pe_str fun σ H Q q => ?_
      obtain ⟨Hd, ρ, env, cs, d, cs', S, ek, e, q⟩ := q
      simp only [evE] at e; cases e
      exact q.here S (dn_str.mpr rfl)
  | .glo x d, sc, e, X, F, C, h => by
    cases e <;> simp only [chkE] at h <;> try (cases h; done)
    rename_i y pos
    simp only [Bool.and_eq_true, Bool.not_eq_true'] at h
    obtain ⟨⟨⟨h1, h2⟩, h3⟩, h4⟩ := h
    have e1 := eq_of_beq h1
    subst e1
    by_cases ht : ∃ n, d = .ty n
    · obtain ⟨n, rfl⟩ := ht
      simp only [Bool.and_eq_true] at h4
      obtain ⟨h5, h6⟩ := h4
      have e2 := eq_of_beq h6
      subst e2
      have hn : n ∈ tyNames := List.contains_iff_mem.mp h5
      have bt : bootBuiltins (Str.ofString n) = some (.type n) ∧ Str.ofString n ≠ "__name__" ∧ X.mg (Str.ofString n) = none := by
        unfold tyNames at hn
        simp only [List.mem_cons, List.not_mem_nil, or_false] at hn
        rcases hn with rfl | rfl | rfl | rfl | rfl | rfl <;> exact ⟨by decide +kernel, by decide, F.blt _ (by decide)⟩
      refine PE.imp (pe_bltn (v := .ty n) (C.gl _ h2) bt.2.2 bt.1 rfl bt.2.1 h3) fun σ H Q q => ?_
      obtain ⟨Hd, ρ, env, cs, d, cs', S, ek, e, q⟩ := q
      simp only [evE] at e; cases e
      exact q.here S (dn_ty.mpr rfl)
    · have h5 : (tb.gls.any fun p => p.1 == y && cstEq p.2 d) = true := by
        cases d with
        | ty n => exact absurd ⟨n, rfl⟩ ht
        | _ => exact h4
      obtain ⟨⟨x', d'⟩, hm, hp⟩ := List.any_eq_true.mp h5
      rw [Bool.and_eq_true] at hp
      have e2 := eq_of_beq hp.1
      have e3 := cstEq_ok hp.2
      simp only at e2 e3
      subst e2 e3
      obtain ⟨u, v, g1, g2, g3⟩ := F.gls _ _ hm
      refine PE.imp (pe_glob (C.gl _ h2) g1 g2 h3) fun σ H Q q => ?_
      obtain ⟨Hd, ρ, env, cs, d, cs', S, ek, e, q⟩ := q
      simp only [evE] at e; cases e
      exact q.here S (g3 _ _)
  | .op o a b, sc, e, X, F, C, h => by
    cases e <;> simp only [chkE] at h <;> try (cases h; done)
    rename_i l p r pos
    simp only [Bool.and_eq_true, decide_eq_true_eq] at h
    obtain ⟨⟨rfl, h2⟩, h3⟩ := h
    refine PE.imp (pe_op (op_D p) (sE a sc l X F C h2) (sE b sc r X F C h3)) fun σ H Q q => ?_
    obtain ⟨Hd, ρ, env, cs, d, cs', S, ek, e, q⟩ := q
    simp only [evE] at e
    split at e
    · rename_i x cs1 e1
      split at e
      · rename_i y cs2 e2
        split at e
        · rename_i z e3; cases e
          exact two S ek e1 e2 fun Hd' ρ' H' v u s S' r1 r2 => ⟨Hd', ρ', _, x, y, _, S', r1, r2, e3, q.step s⟩
        · cases e
      · cases e
    · cases e
  | .cmp o a b, sc, e, X, F, C, h => by
    cases e <;> simp only [chkE] at h <;> try (cases h; done)
    rename_i l ops rs pos
    match ops, rs, h with
    | [p], [r], h =>
      simp only [Bool.and_eq_true, decide_eq_true_eq] at h
      obtain ⟨⟨⟨rfl, h1⟩, h2⟩, h3⟩ := h
      refine PE.imp (pe_cmpR (cmp_D p (by have := C.hu; omega)) (sE a sc l X F C h2) (sE b sc r X F C h3) (behind_ok h1)) fun σ H Q q => ?_
      obtain ⟨Hd, ρ, env, cs, d, cs', S, ek, e, q⟩ := q
      simp only [evE] at e
      split at e
      · rename_i x cs1 e1
        split at e
        · rename_i y cs2 e2
          split at e
          · rename_i z e3; cases e
            exact two S ek e1 e2 fun Hd' ρ' H' v u s S' r1 r2 => ⟨Hd', ρ', _, x, y, .bl z, S', r1, r2, by unfold cD; rw [e3], q.step s⟩
          · cases e
        · cases e
      · cases e
  | .and es, sc, e, X, F, C, h => by
    cases e <;> simp only [chkE] at h <;> try (cases h; done)
    rename_i o vs pos
    cases o <;> (try simp only at h) <;> try (cases h; done)
    refine PE.imp (sAnd es sc vs X F C pos h) fun σ H Q q => ?_
    obtain ⟨Hd, ρ, env, cs, d, cs', S, ek, e, q⟩ := q
    exact ⟨Hd, ρ, env, cs, d, cs', S, ek, by simpa only [evE] using e, q⟩
  | .or es, sc, e, X, F, C, h => by
    cases e <;> simp only [chkE] at h <;> try (cases h; done)
    rename_i o vs pos
    cases o <;> (try simp only at h) <;> try (cases h; done)
    refine PE.imp (sOr es sc vs X F C pos h) fun σ H Q q => ?_
    obtain ⟨Hd, ρ, env, cs, d, cs', S, ek, e, q⟩ := q
    exact ⟨Hd, ρ, env, cs, d, cs', S, ek, by simpa only [evE] using e, q⟩
  | .not a, sc, e, X, F, C, h => by
    cases e <;> simp only [chkE] at h <;> try (cases h; done)
    rename_i o x pos
    cases o <;> (try simp only at h) <;> try (cases h; done)
    refine PE.imp (pe_notT (sE a sc x X F C h)) fun σ H Q q => ?_
    obtain ⟨Hd, ρ, env, cs, d, cs', S, ek, e, q⟩ := q
    simp only [evE] at e
    split at e
    · rename_i x cs1 e1
      split at e
      · rename_i b e2; cases e
        exact tE.run S ek e1 fun _ _ _ v s1 S1 r1 => ⟨b, truD_ok S1 e2 r1, q _ _ _ _ s1 S1 (dn_bl.mpr rfl)⟩
      · cases e
    · cases e
  | .neg a, sc, e, X, F, C, h => by
    cases e <;> simp only [chkE] at h <;> try (cases h; done)
    rename_i o x pos
    cases o <;> (try simp only at h) <;> try (cases h; done)
    refine PE.imp (pe_un un_neg (sE a sc x X F C h)) fun σ H Q q => ?_
    obtain ⟨Hd, ρ, env, cs, d, cs', S, ek, e, q⟩ := q
    simp only [evE] at e
    split at e
    · rename_i i cs1 e1; cases e
      exact tE.run S ek e1 fun _ _ _ v s1 S1 r1 => ⟨i, dn_int.mp r1, q _ _ _ _ s1 S1 (dn_int.mpr rfl)⟩
    · cases e
  | .ite c a b, sc, e, X, F, C, h => by
    cases e <;> simp only [chkE] at h <;> try (cases h; done)
    rename_i t x y pos
    simp only [Bool.and_eq_true] at h
    refine PE.imp (pe_ifExp (sT c sc t X F C h.1.1) (sE a sc x X F C h.1.2) (sE b sc y X F C h.2)) fun σ H Q q => ?_
    obtain ⟨Hd, ρ, env, cs, d, cs', S, ek, e, q⟩ := q
    simp only [evE] at e
    split at e
    · rename_i cs1 e1
      refine ⟨Hd, ρ, env, cs, true, cs1, S, ek, e1, fun _ _ _ s1 S1 => ?_⟩
      exact iteT (tE.run S1 (ek.step s1) e (q.step s1))
    · rename_i cs1 e1
      refine ⟨Hd, ρ, env, cs, false, cs1, S, ek, e1, fun _ _ _ s1 S1 => ?_⟩
      exact iteF (tE.run S1 (ek.step s1) e (q.step s1))
    · cases e
  | .tup es, sc, e, X, F, C, h => by
    cases e <;> simp only [chkE] at h <;> try (cases h; done)
    rename_i xs n pos
    refine PE.imp (pe_tup (sEs es sc xs X F C h)) fun σ H Q q => ?_
    obtain ⟨Hd, ρ, env, cs, d, cs', S, ek, e, q⟩ := q
    simp only [evE] at e
    split at e
    · rename_i ds cs1 e1
      split at e
      · rename_i hc; cases e
        exact ⟨Hd, ρ, env, cs, ds, _, S, ek, e1, fun Hd' ρ' H' vs s S' r => ⟨by rw [r.length]; exact cap_le hc, fun p hp => (q.step s).tup S' r hp⟩⟩
      · cases e
    · cases e
  | .new m l, sc, e, X, F, C, h => by
    simp only [chkE] at h
    refine PE.imp (sL l sc e X F C h) fun σ H Q q => ?_
    obtain ⟨Hd, ρ, env, cs, d, cs', S, ek, e, q⟩ := q
    simp only [evE] at e
    split at e
    · rename_i ds cs1 e1
      split at e
      · rename_i hm; cases e
        refine ⟨Hd, ρ, env, cs, ds, cs1, S, ek, e1, fun Hd' ρ' H' p vs s S' h1 h2 h3 h4 r => ?_⟩
        have x1 : Ext Hd' ρ' Hd' (ρ' ++ [p]) := ⟨Same.refl _, [p], rfl⟩
        refine q _ _ _ _ (s.push h1) (S'.push h2 h3 ⟨vs, h4, DnL.mono x1 _ _ r⟩) (dn_ref.mpr ⟨p, rfl, ?_⟩)
        rw [← S'.len, List.getElem?_append_right (Nat.le_refl _)]
        simp
      · cases e
        refine ⟨Hd, ρ, env, cs, ds, cs', S, ek, e1, fun Hd' ρ' H' p vs s S' h1 h2 h3 h4 r => ?_⟩
        exact q _ _ _ _ (s.freeze h1 h2) (S'.freeze h2 h3 h4) (dn_lst.mpr ⟨p, vs, rfl, upd_same, DnL.mono (ext_upd h2) _ _ r⟩)
    · cases e
  | .idx a b, sc, e, X, F, C, h => by
    cases e <;> simp only [chkE] at h <;> try (cases h; done)
    rename_i x y pos
    simp only [Bool.and_eq_true] at h
    refine PE.imp (pe_ix ix_D (sE a sc x X F C h.1.2) (sE b sc y X F C h.2) (slice_ok h.1.1)) fun σ H Q q => ?_
    obtain ⟨Hd, ρ, env, cs, d, cs', S, ek, e, q⟩ := q
    simp only [evE] at e
    split at e
    · rename_i x cs1 e1
      split at e
      · rename_i y cs2 e2
        split at e
        · rename_i z e3; cases e
          exact two S ek e1 e2 fun Hd' ρ' H' v u s S' r1 r2 => ⟨Hd', ρ', _, x, y, _, S', r1, r2, e3, q.step s⟩
        · cases e
      · cases e
    · cases e
  | .slc a lo hi, sc, e, X, F, C, h => by
    cases e <;> simp only [chkE] at h <;> try (cases h; done)
    rename_i x y pos
    cases y <;> (try simp only at h) <;> try (cases h; done)
    rename_i l u st p2
    cases st with
    | some _ => simp only at h; cases h
    | none =>
      simp only [Bool.and_eq_true] at h
      refine PE.imp (pe_slice sl_D (sE a sc x X F C h.1.1) (sO lo sc l X F C h.1.2) (sO hi sc u X F C h.2)) fun σ H Q q => ?_
      obtain ⟨Hd, ρ, env, cs, d, cs', S, ek, e, q⟩ := q
      simp only [evE] at e
      split at e
      · rename_i x cs1 e1
        split at e
        · rename_i n1 cs2 e2
          split at e
          · rename_i n2 cs3 e3
            split at e
            · rename_i z e4; cases e
              exact tE.run S ek e1 fun _ _ _ v s1 S1 r1 => ⟨_, _, env, _, _, _, S1, ek.step s1, e2, fun _ _ _ s2 S2 => ⟨_, _, env, _, _, _, S2, (ek.step s1).step s2, e3, fun _ _ _ s3 S3 =>
                ⟨_, _, _, _, _, S3, Dn.mono (s2.trans s3).ext _ _ r1, e4, q.step ((s1.trans s2).trans s3)⟩⟩⟩
            · cases e
          · cases e
        · cases e
      · cases e
  | .call f es, sc, e, X, F, C, h => by
    cases e <;> simp only [chkE] at h <;> try (cases h; done)
    rename_i fn args kws pos
    cases fn <;> (try simp only at h) <;> try (cases h; done)
    rename_i x px
    match args, kws, h with
    | v :: vs, [], h =>
      simp only [Bool.and_eq_true] at h
      obtain ⟨⟨h1, h2⟩, h3⟩ := h
      cases ef : tb.fis[f]? with
      | none => rw [ef] at h1; cases h1
      | some fi =>
        rw [ef] at h1
        simp only [Bool.and_eq_true] at h1
        have ex := eq_of_beq h1.1
        obtain ⟨⟨fd, g2, g3, g4⟩, g1'⟩ := F.fns f fi ef
        obtain ⟨g1, g5⟩ := g1' h1.2
        rw [ex] at g1 g5
        cases es with
        | nil => simp [chkEs] at h3
        | cons ce es' =>
          have h3' := h3
          simp only [chkEs, Bool.and_eq_true] at h3'
          refine PE.imp (pe_callG (E := E0) g4 C.room C.gds (C.gl _ h2) g1 g2 g3 passX (sEs (.cons ce es') sc (v :: vs) X F C h3) g5 (star_ok vs h3'.1.1) (back_ok es' vs h3'.2)) fun σ H Q q => ?_
          obtain ⟨Hd, ρ, env, cs, d, cs', S, ek, e, q⟩ := q
          simp only [evE] at e
          split at e
          · rename_i ds cs1 e1
            refine ⟨Hd, ρ, env, cs, ds, cs1, S, ek, e1, fun Hd' ρ' H' us s S' r => ?_⟩
            refine ⟨?_, Hd', ρ', cs1, ds, d, cs', S', r, e, q.step s⟩
            rw [r.length]; exact F.ar f fi ds cs1 _ ef e
          · cases e
  | .bi b es, sc, e, X, F, C, h => by
    cases e <;> simp only [chkE] at h <;> try (cases h; done)
    rename_i fn args kws pos
    cases fn <;> (try simp only at h) <;> try (cases h; done)
    rename_i x px
    match args, kws, h with
    | v :: vs, [], h =>
      simp only [Bool.and_eq_true] at h
      obtain ⟨⟨h1, h2⟩, h3⟩ := h
      cases es with
      | nil => simp [chkEs] at h3
      | cons ce es' =>
        have h3' := h3
        simp only [chkEs, Bool.and_eq_true] at h3'
        refine PE.imp (biGo F C (eq_of_beq h1) (C.gl _ h2) (sEs (.cons ce es') sc (v :: vs) X F C h3) (star_ok vs h3'.1.1) (back_ok es' vs h3'.2)) fun σ H Q q => ?_
        obtain ⟨Hd, ρ, env, cs, d, cs', S, ek, e, q⟩ := q
        simp only [evE] at e
        split at e
        · rename_i ds cs1 e1
          split at e
          · rename_i z e2; cases e
            exact ⟨Hd, ρ, env, cs, ds, _, S, ek, e1, fun Hd' ρ' H' us s S' r => ⟨Hd', ρ', _, ds, d, S', r, e2, q.step s⟩⟩
          · cases e
        · cases e
  | .mt m o es, sc, e, X, F, C, h => by
    cases e <;> simp only [chkE] at h <;> try (cases h; done)
    rename_i fn args kws pos
    cases fn <;> (try simp only at h) <;> try (cases h; done)
    rename_i ob nm ap
    cases kws with
    | cons _ _ => exact absurd h (by simp)
    | nil =>
      simp only [Bool.and_eq_true] at h
      obtain ⟨⟨⟨⟨h1, h2⟩, h3⟩, h4⟩, h5⟩ := h
      have e1 := eq_of_beq h1
      subst e1
      have h6 : chkEs tb X.N sc es args = true ∧ args.length ≤ 1 := by
        match args, h5 with
        | [], h5 => exact ⟨h5, by simp⟩
        | [a], h5 => exact ⟨h5, by simp⟩
        | _ :: _ :: _, h5 => cases h5
      have ho := sE o sc ob X F C h4
      have ha := sEs es sc args X F C h6.1
      cases m with
      | append => exact mtGo PySem.F.plainAttrs_list PySem.F.slot_list_append PySem.F.type_list_append mt_appendD (fun {Hd H ρ cs d v} S ok r => by cases d <;> simp only [mtOk] at ok <;> first | (cases ok; done) | exact ty_list S ok r) h2 h3 ho ha h6.1 h6.2
      | extend => exact mtGo PySem.F.plainAttrs_list PySem.F.slot_list_extend PySem.F.type_list_extend mt_extendD (fun {Hd H ρ cs d v} S ok r => by cases d <;> simp only [mtOk] at ok <;> first | (cases ok; done) | exact ty_list S ok r) h2 h3 ho ha h6.1 h6.2
      | pop => exact mtGo PySem.F.plainAttrs_list PySem.F.slot_list_pop PySem.F.type_list_pop mt_popD (fun {Hd H ρ cs d v} S ok r => by cases d <;> simp only [mtOk] at ok <;> first | (cases ok; done) | exact ty_list S ok r) h2 h3 ho ha h6.1 h6.2
      | popAt => exact mtGo PySem.F.plainAttrs_list PySem.F.slot_list_pop PySem.F.type_list_pop mt_popAtD (fun {Hd H ρ cs d v} S ok r => by cases d <;> simp only [mtOk] at ok <;> first | (cases ok; done) | exact ty_list S ok r) h2 h3 ho ha h6.1 h6.2
      | clear => exact mtGo PySem.F.plainAttrs_list PySem.F.slot_list_clear PySem.F.type_list_clear mt_clearD (fun {Hd H ρ cs d v} S ok r => by cases d <;> simp only [mtOk] at ok <;> first | (cases ok; done) | exact ty_list S ok r) h2 h3 ho ha h6.1 h6.2
      | reverse => exact mtGo PySem.F.plainAttrs_list PySem.F.slot_list_reverse PySem.F.type_list_reverse mt_reverseD (fun {Hd H ρ cs d v} S ok r => by cases d <;> simp only [mtOk] at ok <;> first | (cases ok; done) | exact ty_list S ok r) h2 h3 ho ha h6.1 h6.2
      | join => exact mtGo PySem.F.plainAttrs_str PySem.F.slot_str_join PySem.F.type_str_join mt_joinD (fun {Hd H ρ cs d v} S ok r => by cases d <;> simp only [mtOk] at ok <;> first | (cases ok; done) | (rw [dn_str.mp r]; rfl)) h2 h3 ho ha h6.1 h6.2
      | strip => exact mtGo PySem.F.plainAttrs_str PySem.F.slot_str_strip PySem.F.type_str_strip mt_stripD (fun {Hd H ρ cs d v} S ok r => by cases d <;> simp only [mtOk] at ok <;> first | (cases ok; done) | (rw [dn_str.mp r]; rfl)) h2 h3 ho ha h6.1 h6.2
      | startswith => exact mtGo PySem.F.plainAttrs_str PySem.F.slot_str_startswith PySem.F.type_str_startswith mt_startsD (fun {Hd H ρ cs d v} S ok r => by cases d <;> simp only [mtOk] at ok <;> first | (cases ok; done) | (rw [dn_str.mp r]; rfl)) h2 h3 ho ha h6.1 h6.2
      | _ => exact ⟨fun pins s σ H Q I q => by
          obtain ⟨Hd, ρ, env, cs, d, cs', S, ek, e, q⟩ := q
          exfalso
          simp only [evE] at e
          split at e
          · rename_i x cs1 e1
            cases x <;> simp [mtOk] at e
          · cases e⟩
  | .chn o1 o2 a b c, sc, e, X, F, C, h => by
    cases e <;> simp only [chkE] at h <;> try (cases h; done)
    rename_i l ops cmps pos
    match ops, cmps, h with
    | [p, q'], [r, u], h =>
      simp only [Bool.and_eq_true, decide_eq_true_eq] at h
      obtain ⟨⟨⟨⟨⟨rfl, rfl⟩, h3⟩, h4⟩, h5⟩, h6⟩ := h
      exact chnGo C h3 (sE a sc l X F C h4) (sE b sc r X F C h5) (sE c sc u X F C h6)
  | .fld c f a, sc, e, X, F, C, h => by
    cases e <;> simp only [chkE] at h <;> try (cases h; done)
    rename_i x nm pos
    simp only [Bool.and_eq_true] at h
    obtain ⟨⟨⟨h1, h2⟩, h3⟩, h4⟩ := h
    have e1 := eq_of_beq h1
    subst e1
    exact fldGo F h2 h3 (sE a sc x X F C h4)
  | .prp c f i a, sc, e, X, F, C, h => by
    cases e <;> simp only [chkE] at h <;> try (cases h; done)
    rename_i x nm pos
    simp only [Bool.and_eq_true] at h
    obtain ⟨⟨⟨h1, h2⟩, h3⟩, h4⟩ := h
    have e1 := eq_of_beq h1
    subst e1
    exact prpGo F C h2 h3 (sE a sc x X F C h4)
  | .mth c m i o es, sc, e, X, F, C, h => by
    cases e <;> simp only [chkE] at h <;> try (cases h; done)
    rename_i fn args kws pos
    cases fn <;> (try simp only at h) <;> try (cases h; done)
    rename_i ob nm ap
    cases kws with
    | cons _ _ => exact absurd h (by simp)
    | nil =>
      simp only [Bool.and_eq_true] at h
      obtain ⟨⟨⟨⟨⟨⟨h1, h2⟩, h3⟩, h30⟩, h4⟩, h5⟩, h6⟩ := h
      have e1 := eq_of_beq h1
      subst e1
      exact mthGo F C h2 h3 (of_decide_eq_true h30) h4 h6 (sE o sc ob X F C h5) (sEs es sc args X F C h6)
  | .mk c i m es, sc, e, X, F, C, h => by
    cases e <;> simp only [chkE] at h <;> try (cases h; done)
    rename_i fn args kws pos
    cases fn <;> (try simp only at h) <;> try (cases h; done)
    rename_i x px
    match args, kws, h with
    | v :: vs, [], h =>
      simp only [Bool.and_eq_true] at h
      obtain ⟨⟨h1, h2⟩, h3⟩ := h
      exact mkGo F C h1 (C.gl _ h2) h3 (sEs es sc (v :: vs) X F C h3)
  | .callK kf es kw, sc, e, X, F, C, h => by
    cases e <;> simp only [chkE] at h <;> try (cases h; done)
    rename_i fn args kws pos
    cases fn <;> (try simp only at h) <;> try (cases h; done)
    rename_i x px
    rw [Bool.and_eq_true, Bool.and_eq_true, Bool.and_eq_true, Bool.and_eq_true] at h
    obtain ⟨⟨⟨⟨h1, h2⟩, h3⟩, h4⟩, h5⟩ := h
    exact callKGo F C h1 h2 (C.gl _ h3) h4 h5 (sEs es sc args X F C h4) (sKw kw sc kws kf.ks X F C h5)
  | .mthK c m kf o es kw, sc, e, X, F, C, h => by
    cases e <;> simp only [chkE] at h <;> try (cases h; done)
    rename_i fn args kws pos
    cases fn <;> (try simp only at h) <;> try (cases h; done)
    rename_i ob nm ap
    simp only [Bool.and_eq_true] at h
    obtain ⟨⟨⟨⟨⟨⟨⟨⟨h1, h2⟩, h3⟩, h30⟩, h4⟩, h5⟩, h6⟩, h7⟩, h8⟩ := h
    have e1 := eq_of_beq h1
    subst e1
    exact mthKGo F C h2 h3 (of_decide_eq_true h30) h4 h5 h7 h8 (sE o sc ob X F C h6) (sEs es sc args X F C h7) (sKw kw sc kws kf.ks X F C h8)
  | .mkK c kf m es kw, sc, e, X, F, C, h => by
    cases e <;> simp only [chkE] at h <;> try (cases h; done)
    rename_i fn args kws pos
    cases fn <;> (try simp only at h) <;> try (cases h; done)
    rename_i x px
    simp only [Bool.and_eq_true] at h
    obtain ⟨⟨⟨⟨h1, h2⟩, h3⟩, h4⟩, h5⟩ := h
    exact mkKGo F C h1 h2 (C.gl _ h3) h4 h5 (sEs es sc args X F C h4) (sKw kw sc kws kf.ks X F C h5)
  | .lenO c i a, sc, e, X, F, C, h => by
    cases e <;> simp only [chkE] at h <;> try (cases h; done)
    rename_i fn args kws pos
    cases fn <;> (try simp only at h) <;> try (cases h; done)
    rename_i x px
    match args, kws, h with
    | [v], [], h =>
      simp only [Bool.and_eq_true] at h
      obtain ⟨⟨⟨⟨h1, h2⟩, h3⟩, h4⟩, h5⟩ := h
      have ex := eq_of_beq h1
      subst ex
      exact lenOGo F C (C.gl _ h2) h3 h4 (sE a sc v X F C h5)
  | .reprO c i a, sc, e, X, F, C, h => by
    cases e <;> simp only [chkE] at h <;> try (cases h; done)
    rename_i fn args kws pos
    cases fn <;> (try simp only at h) <;> try (cases h; done)
    rename_i x px
    match args, kws, h with
    | [v], [], h =>
      simp only [Bool.and_eq_true] at h
      obtain ⟨⟨⟨⟨h1, h2⟩, h3⟩, h4⟩, h5⟩ := h
      have ex := eq_of_beq h1
      subst ex
      exact reprOGo F C (C.gl _ h2) h3 h4 (sE a sc v X F C h5)
  | .eqO c i a b, sc, e, X, F, C, h => by
    cases e <;> simp only [chkE] at h <;> try (cases h; done)
    rename_i l ops rs pos
    match ops, rs, h with
    | [p], [r], h =>
      simp only [Bool.and_eq_true, decide_eq_true_eq] at h
      obtain ⟨⟨⟨⟨rfl, h1⟩, h2⟩, h3⟩, h4⟩ := h
      exact (eqOGo F C h1 h2 (sE a sc l X F C h3) (sE b sc r X F C h4)).1
  | .gsub nm ks ds a, sc, e, X, F, C, h => by
    cases e <;> simp only [chkE] at h <;> try (cases h; done)
    rename_i v i pos
    cases v <;> (try simp only at h) <;> try (cases h; done)
    rename_i y p
    simp only [Bool.and_eq_true, Bool.not_eq_true'] at h
    obtain ⟨⟨⟨⟨⟨h1, h2⟩, h3⟩, h4⟩, h5⟩, h6⟩ := h
    have e1 := eq_of_beq h1
    subst e1
    obtain ⟨⟨x', ks', ds'⟩, hm, hp⟩ := List.any_eq_true.mp h5
    simp only [Bool.and_eq_true] at hp
    have q1 := eq_of_beq hp.1.1
    have q2 := eq_of_beq hp.1.2
    have q3 := cstEqL_ok hp.2
    subst q1 q2 q3
    obtain ⟨d0, es, n, g1, D, g2, g3⟩ := F.gds _ _ _ hm
    refine PE.imp (pe_ix (ix_kd D) (pe_glob (v := .ref d0) (C.gl _ h2) g1 rfl h3) (sE a sc i X F C h6) (slice_ok h4)) fun σ H Q q => ?_
    obtain ⟨Hd, ρ, env, cs, d, cs', S, ek, e, q⟩ := q
    simp only [evE] at e
    split at e
    · rename_i x cs1 e1
      split at e
      · rename_i d' e2; cases e
        obtain ⟨u, v, r1, r2, r3⟩ := g2 _ _ e2
        exact tE.run S ek e1 fun Hd' ρ' H' w s S' r => ⟨x, u, v, rfl, dn_str.mp r, r1, r2, (q.step s).here S' (r3 _ _)⟩
      · cases e
    · cases e
  | .gin nm ks neg a, sc, e, X, F, C, h => by
    cases e <;> simp only [chkE] at h <;> try (cases h; done)
    rename_i l ops rs pos
    match ops, rs, h with
    | [p], [.Name y yp], h =>
      simp only [Bool.and_eq_true, Bool.not_eq_true', decide_eq_true_eq] at h
      obtain ⟨⟨⟨⟨⟨h0, h1⟩, h2⟩, h3⟩, h5⟩, h6⟩ := h
      have e1 := eq_of_beq h1
      subst e1
      obtain ⟨⟨x', ks', ds'⟩, hm, hp⟩ := List.any_eq_true.mp h5
      simp only [Bool.and_eq_true] at hp
      have q1 := eq_of_beq hp.1
      have q2 := eq_of_beq hp.2
      subst q1 q2
      obtain ⟨d0, es, n, g1, D, g2, g3⟩ := F.gds _ _ _ hm
      cases neg with
      | true =>
        rw [if_pos rfl] at h0
        subst h0
        refine PE.imp (pe_cmpR (op_notIn_kd D) (sE a sc l X F C h6) (pe_glob (v := .ref d0) (C.gl _ h2) g1 rfl h3) rfl) fun σ H Q q => ?_
        obtain ⟨Hd, ρ, env, cs, d, cs', S, ek, e, q⟩ := q
        simp only [evE] at e
        split at e
        · rename_i x cs1 e1; cases e
          obtain ⟨r, g4, g5⟩ := g3 x
          exact tE.run S ek e1 fun Hd' ρ' H' w s S' r' => ⟨x, r, dn_str.mp r', rfl, g4, (q.step s).here S' (dn_bl.mpr (by rw [g5]; rfl))⟩
        · cases e
      | false =>
        rw [if_neg Bool.false_ne_true] at h0
        subst h0
        refine PE.imp (pe_cmpR (op_in_kd D) (sE a sc l X F C h6) (pe_glob (v := .ref d0) (C.gl _ h2) g1 rfl h3) rfl) fun σ H Q q => ?_
        obtain ⟨Hd, ρ, env, cs, d, cs', S, ek, e, q⟩ := q
        simp only [evE] at e
        split at e
        · rename_i x cs1 e1; cases e
          obtain ⟨r, g4, g5⟩ := g3 x
          exact tE.run S ek e1 fun Hd' ρ' H' w s S' r' => ⟨x, r, dn_str.mp r', rfl, g4, (q.step s).here S' (dn_bl.mpr (by rw [g5]; rfl))⟩
        · cases e
  | .dsub ps a, sc, e, X, F, C, h => by
    cases e <;> simp only [chkE] at h <;> try (cases h; done)
    rename_i v i pos
    cases v <;> (try simp only at h) <;> try (cases h; done)
    rename_i ks vs p1
    simp only [Bool.and_eq_true, Bool.not_eq_true', decide_eq_true_eq] at h
    obtain ⟨⟨⟨⟨h1, h2⟩, h3⟩, h4⟩, h6⟩ := h
    have h0 : ps ≠ [] := fun c => by rw [c] at h3; cases h3
    refine PE.imp (pe_dsub (by have := C.hu; omega) h2 h0 h4 (sE a sc i X F C h6) (slice_ok h1)) fun σ H Q q p hp => ?_
    obtain ⟨Hd, ρ, env, cs, d, cs', S, ek, e, q⟩ := q
    simp only [evE] at e
    split at e
    · rename_i x cs1 e1
      split at e
      · rename_i y e2; cases e
        have s0 := step_frozen (o := .dK (mergeK [] (dkv ps))) S hp
        refine ⟨_, ρ, env, cs, _, _, S.frozen hp, ek.step s0, e1, fun Hd' ρ' H' w s S' r => ⟨p, .str y, rfl, ?_, (q.step (s0.trans s)).here S' (dn_str.mpr rfl)⟩⟩
        have hp' : H' p = some (.dK (mergeK [] (dkv ps))) := S'.sub _ _ (s.ext.sub _ _ upd_same)
        rw [dn_str.mp r, ← e2]
        exact DGet.k (k := .inr x) hp'
      · cases e
    · cases e
  | .stp a lo st, sc, e, X, F, C, h => by
    unfold chkE at h
    split at h
    · simp only [Bool.and_eq_true, Bool.not_eq_true', decide_eq_true_eq] at h
      obtain ⟨⟨⟨rfl, rfl⟩, h3⟩, h4⟩ := h
      refine PE.imp (pe_stp (sE a sc _ X F C h4) (beq_eq_false_iff_ne.mp h3)) fun σ H Q q => ?_
      obtain ⟨Hd, ρ, env, cs, d, cs', S, ek, e, q⟩ := q
      simp only [evE] at e
      split at e
      · rename_i x cs1 e1
        split at e
        · rename_i hc; cases e
          exact tE.run S ek e1 fun Hd' ρ' H' w s S' r => ⟨x, dn_str.mp r, cap_le hc.1, (q.step s).here S' (dn_str.mpr rfl)⟩
        · cases e
      · cases e
    · cases h
theorem sT : ∀ (ce : E) (sc : Scope) (e : Expr) (X : Cx), FxX φ k tb X → Cok k sc X → chkE tb X.N sc ce e = true → PT X e (tT X.K φ ce)
  | .and es, sc, e, X, F, C, h => by
    cases e <;> simp only [chkE] at h <;> try (cases h; done)
    rename_i o vs pos
    cases o <;> (try simp only at h) <;> try (cases h; done)
    refine PT.imp (sTA es sc vs X F C pos h).pt fun σ H Q q => ?_
    obtain ⟨Hd, ρ, env, cs, d, cs', S, ek, e, q⟩ := q
    exact ⟨Hd, ρ, env, cs, d, cs', S, ek, by simpa only [evT] using e, q⟩
  | .or es, sc, e, X, F, C, h => by
    cases e <;> simp only [chkE] at h <;> try (cases h; done)
    rename_i o vs pos
    cases o <;> (try simp only at h) <;> try (cases h; done)
    refine PT.imp (sTO es sc vs X F C pos h).pt fun σ H Q q => ?_
    obtain ⟨Hd, ρ, env, cs, d, cs', S, ek, e, q⟩ := q
    exact ⟨Hd, ρ, env, cs, d, cs', S, ek, by simpa only [evT] using e, q⟩
  | .not a, sc, e, X, F, C, h => by
    cases e <;> simp only [chkE] at h <;> try (cases h; done)
    rename_i o x pos
    cases o <;> (try simp only at h) <;> try (cases h; done)
    refine PT.imp (pt_not (sT a sc x X F C h)) fun σ H Q q => ?_
    obtain ⟨Hd, ρ, env, cs, d, cs', S, ek, e, q⟩ := q
    simp only [evT] at e
    split at e
    · rename_i b cs1 e1; cases e
      exact ⟨Hd, ρ, env, cs, b, _, S, ek, e1, q⟩
    · cases e
  | .cmp o a b, sc, e, X, F, C, h => by
    cases e <;> simp only [chkE] at h <;> try (cases h; done)
    rename_i l ops rs pos
    match ops, rs, h with
    | [p], [r], h =>
      simp only [Bool.and_eq_true, decide_eq_true_eq] at h
      obtain ⟨⟨⟨rfl, h1⟩, h2⟩, h3⟩ := h
      refine PT.imp (pt_cmpR (cmp_D p (by have := C.hu; omega)) (sE a sc l X F C h2) (sE b sc r X F C h3) (behind_ok h1)) fun σ H Q q => ?_
      obtain ⟨Hd, ρ, env, cs, d, cs', S, ek, e, q⟩ := q
      simp only [evT] at e
      split at e
      · rename_i x cs1 e1
        split at e
        · rename_i y cs2 e2
          split at e
          · rename_i z e3; cases e
            exact two S ek e1 e2 fun Hd' ρ' H' v u s S' r1 r2 => ⟨Hd', ρ', _, x, y, .bl d, S', r1, r2, by unfold cD; rw [e3], fun _ _ _ v s' S'' r => ⟨d, dn_bl.mp r, q _ _ _ (s.trans s') S''⟩⟩
          · cases e
        · cases e
      · cases e
  | .var i, sc, e, X, F, C, h => by
    have ht : plainT e = true := by cases e <;> simp only [chkE] at h <;> first | rfl | (cases h; done)
    refine PT.imp (pt_truth (sE (.var i) sc e X F C h) (truth_ok ht)) fun σ H Q q => ?_
    obtain ⟨Hd, ρ, env, cs, d, cs', S, ek, e, q⟩ := q
    simp only [evT] at e
    split at e
    · rename_i d' hd
      split at e
      · rename_i b hb; cases e
        exact tE.run S ek (by simp only [evE]; rw [hd]) fun _ _ _ v s1 S1 r1 => ⟨_, truD_ok S1 hb r1, q _ _ _ s1 S1⟩
      · cases e
    · cases e
  | .call f es, sc, e, X, F, C, h => by
    have ht : plainT e = true := by cases e <;> simp only [chkE] at h <;> first | rfl | (cases h; done)
    refine PT.imp (pt_truth (sE (.call f es) sc e X F C h) (truth_ok ht)) fun σ H Q q => ?_
    obtain ⟨Hd, ρ, env, cs, d, cs', S, ek, e, q⟩ := q
    simp only [evT] at e
    split at e
    · rename_i ds cs1 e1
      split at e
      · rename_i z cs2 e2
        split at e
        · rename_i b hb; cases e
          exact tE.run S ek (by simp only [evE]; rw [e1]; exact e2) fun _ _ _ v s1 S1 r1 => ⟨_, truD_ok S1 hb r1, q _ _ _ s1 S1⟩
        · cases e
      · cases e
    · cases e
  | .bi b es, sc, e, X, F, C, h => by
    have ht : plainT e = true := by cases e <;> simp only [chkE] at h <;> first | rfl | (cases h; done)
    refine PT.imp (pt_truth (sE (.bi b es) sc e X F C h) (truth_ok ht)) fun σ H Q q => ?_
    obtain ⟨Hd, ρ, env, cs, d, cs', S, ek, e, q⟩ := q
    simp only [evT] at e
    split at e
    · rename_i ds cs1 e1
      split at e
      · rename_i z e2
        split at e
        · rename_i b' hb; cases e
          exact tE.run S ek (by simp only [evE]; rw [e1]; simp only; rw [e2]) fun _ _ _ v s1 S1 r1 => ⟨_, truD_ok S1 hb r1, q _ _ _ s1 S1⟩
        · cases e
      · cases e
    · cases e
  | .mt m o es, sc, e, X, F, C, h => by
    have ht : plainT e = true := by cases e <;> simp only [chkE] at h <;> first | rfl | (cases h; done)
    refine PT.imp (pt_truth (sE (.mt m o es) sc e X F C h) (truth_ok ht)) fun σ H Q q => ?_
    obtain ⟨Hd, ρ, env, cs, d, cs', S, ek, e, q⟩ := q
    simp only [evT] at e
    split at e
    · rename_i x cs1 e1
      split at e
      · rename_i ok
        split at e
        · rename_i ds cs2 e2
          split at e
          · rename_i z cs3 e3
            split at e
            · rename_i b' hb; cases e
              exact tE.run S ek (by simp only [evE]; rw [e1]; simp only; rw [if_pos ok, e2]; exact e3) fun _ _ _ v s1 S1 r1 => ⟨_, truD_ok S1 hb r1, q _ _ _ s1 S1⟩
            · cases e
          · cases e
        · cases e
      · cases e
    · cases e
  | .chn o1 o2 a b c, sc, e, X, F, C, h => by
    cases e <;> simp only [chkE] at h <;> try (cases h; done)
    rename_i l ops cmps pos
    match ops, cmps, h with
    | [p, q'], [r, u], h =>
      simp only [Bool.and_eq_true, decide_eq_true_eq] at h
      obtain ⟨⟨⟨⟨⟨rfl, rfl⟩, h3⟩, h4⟩, h5⟩, h6⟩ := h
      exact chnGoT C h3 (sE a sc l X F C h4) (sE b sc r X F C h5) (sE c sc u X F C h6)
  | .fld c f a, sc, e, X, F, C, h => truGo (fun _ _ _ _ e => trT_fld e) (by cases e <;> simp only [chkE] at h <;> first | rfl | (cases h; done)) (sE (.fld c f a) sc e X F C h)
  | .prp c f i a, sc, e, X, F, C, h => truGo (fun _ _ _ _ e => trT_prp e) (by cases e <;> simp only [chkE] at h <;> first | rfl | (cases h; done)) (sE (.prp c f i a) sc e X F C h)
  | .mth c m i o es, sc, e, X, F, C, h => truGo (fun _ _ _ _ e => trT_mth e) (by cases e <;> simp only [chkE] at h <;> first | rfl | (cases h; done)) (sE (.mth c m i o es) sc e X F C h)
  | .eqO c i a b, sc, e, X, F, C, h => by
    cases e <;> simp only [chkE] at h <;> try (cases h; done)
    rename_i l ops rs pos
    match ops, rs, h with
    | [p], [r], h =>
      simp only [Bool.and_eq_true, decide_eq_true_eq] at h
      obtain ⟨⟨⟨⟨rfl, h1⟩, h2⟩, h3⟩, h4⟩ := h
      exact (eqOGo F C h1 h2 (sE a sc l X F C h3) (sE b sc r X F C h4)).2
  | .gin nm ks neg a, sc, e, X, F, C, h => by
    cases e <;> simp only [chkE] at h <;> try (cases h; done)
    rename_i l ops rs pos
    match ops, rs, h with
    | [p], [.Name y yp], h =>
      simp only [Bool.and_eq_true, Bool.not_eq_true', decide_eq_true_eq] at h
      obtain ⟨⟨⟨⟨⟨h0, h1⟩, h2⟩, h3⟩, h5⟩, h6⟩ := h
      have e1 := eq_of_beq h1
      subst e1
      obtain ⟨⟨x', ks', ds'⟩, hm, hp⟩ := List.any_eq_true.mp h5
      simp only [Bool.and_eq_true] at hp
      have q1 := eq_of_beq hp.1
      have q2 := eq_of_beq hp.2
      subst q1 q2
      obtain ⟨d0, es, n, g1, D, g2, g3⟩ := F.gds _ _ _ hm
      cases neg with
      | true =>
        rw [if_pos rfl] at h0
        subst h0
        refine PT.imp (pt_cmpR (op_notIn_kd D) (sE a sc l X F C h6) (pe_glob (v := .ref d0) (C.gl _ h2) g1 rfl h3) rfl) fun σ H Q q => ?_
        obtain ⟨Hd, ρ, env, cs, d, cs', S, ek, e, q⟩ := q
        simp only [evT] at e
        split at e
        · rename_i x cs1 e1; cases e
          obtain ⟨r, g4, g5⟩ := g3 x
          exact tE.run S ek e1 fun Hd' ρ' H' w s S' r' => ⟨x, r, dn_str.mp r', rfl, g4, _, rfl, by rw [g5]; exact q _ _ _ s S'⟩
        · cases e
      | false =>
        rw [if_neg Bool.false_ne_true] at h0
        subst h0
        refine PT.imp (pt_cmpR (op_in_kd D) (sE a sc l X F C h6) (pe_glob (v := .ref d0) (C.gl _ h2) g1 rfl h3) rfl) fun σ H Q q => ?_
        obtain ⟨Hd, ρ, env, cs, d, cs', S, ek, e, q⟩ := q
        simp only [evT] at e
        split at e
        · rename_i x cs1 e1; cases e
          obtain ⟨r, g4, g5⟩ := g3 x
          exact tE.run S ek e1 fun Hd' ρ' H' w s S' r' => ⟨x, r, dn_str.mp r', rfl, g4, _, rfl, by rw [g5]; exact q _ _ _ s S'⟩
        · cases e
  | .cst _, _, _, _, _, _, _ | .glo _ _, _, _, _, _, _, _ | .op _ _ _, _, _, _, _, _, _ | .neg _, _, _, _, _, _, _ | .ite _ _ _, _, _, _, _, _, _ | .tup _, _, _, _, _, _, _ | .new _ _, _, _, _, _, _, _ | .idx _ _, _, _, _, _, _, _ | .slc _ _ _, _, _, _, _, _, _ | .mk _ _ _ _, _, _, _, _, _, _ | .callK _ _ _, _, _, _, _, _, _ | .mthK _ _ _ _ _ _, _, _, _, _, _, _ | .mkK _ _ _ _ _, _, _, _, _, _, _ | .lenO _ _ _, _, _, _, _, _, _ | .reprO _ _ _, _, _, _, _, _, _ | .gsub _ _ _ _, _, _, _, _, _, _ | .dsub _ _, _, _, _, _, _, _ | .stp _ _ _, _, _, _, _, _, _ => ⟨fun pins s σ H Q I q => by
    obtain ⟨Hd, ρ, env, cs, d, cs', S, ek, e, q⟩ := q
    simp [evT] at e⟩
theorem sAnd : ∀ (es : Es) (sc : Scope) (vs : List Expr) (X : Cx), FxX φ k tb X → Cok k sc X → ∀ pos, chkEs tb X.N sc es vs = true → PE X (.BoolOp .And vs pos) (tAnd' X.K φ es)
  | .nil, sc, vs, X, F, C, pos, h => ⟨fun pins s σ H Q I q => by
    obtain ⟨Hd, ρ, env, cs, d, cs', S, ek, e, q⟩ := q
    simp [evAnd] at e⟩
  | .cons ce .nil, sc, vs, X, F, C, pos, h => by
    match vs, h with
    | [v], h =>
      simp only [chkEs, Bool.and_eq_true] at h
      refine PE.imp (pe_one (sE ce sc v X F C h.1.2)) fun σ H Q q => ?_
      obtain ⟨Hd, ρ, env, cs, d, cs', S, ek, e, q⟩ := q
      exact ⟨Hd, ρ, env, cs, d, cs', S, ek, by simpa only [evAnd] using e, q⟩
    | [], h => simp [chkEs] at h
    | _ :: _ :: _, h => simp [chkEs] at h
  | .cons ce (.cons c2 es), sc, vs, X, F, C, pos, h => by
    match vs, h with
    | v :: v2 :: vs, h =>
      have h0 := h
      rw [chkEs] at h0
      simp only [Bool.and_eq_true] at h0
      refine PE.imp (pe_and (sE ce sc v X F C h0.1.2) (sAnd (.cons c2 es) sc (v2 :: vs) X F C pos h0.2)) fun σ H Q q => ?_
      obtain ⟨Hd, ρ, env, cs, d, cs', S, ek, e, q⟩ := q
      rw [evAnd] at e
      split at e
      · rename_i cs1 e1
        exact tE.run S ek e1 fun _ _ _ v s1 S1 r1 => ⟨true, dn_bl.mp r1, iteT ⟨_, _, env, cs1, d, cs', S1, ek.step s1, e, q.step s1⟩⟩
      · rename_i cs1 e1; cases e
        exact tE.run S ek e1 fun _ _ _ v s1 S1 r1 => ⟨false, dn_bl.mp r1, iteF (q _ _ _ _ s1 S1 (dn_bl.mpr rfl))⟩
      · cases e
    | [], h => simp [chkEs] at h
    | [_], h => simp [chkEs] at h
theorem sOr : ∀ (es : Es) (sc : Scope) (vs : List Expr) (X : Cx), FxX φ k tb X → Cok k sc X → ∀ pos, chkEs tb X.N sc es vs = true → PE X (.BoolOp .Or vs pos) (tOr' X.K φ es)
  | .nil, sc, vs, X, F, C, pos, h => ⟨fun pins s σ H Q I q => by
    obtain ⟨Hd, ρ, env, cs, d, cs', S, ek, e, q⟩ := q
    simp [evOr] at e⟩
  | .cons ce .nil, sc, vs, X, F, C, pos, h => by
    match vs, h with
    | [v], h =>
      simp only [chkEs, Bool.and_eq_true] at h
      refine PE.imp (pe_one (sE ce sc v X F C h.1.2)) fun σ H Q q => ?_
      obtain ⟨Hd, ρ, env, cs, d, cs', S, ek, e, q⟩ := q
      exact ⟨Hd, ρ, env, cs, d, cs', S, ek, by simpa only [evOr] using e, q⟩
    | [], h => simp [chkEs] at h
    | _ :: _ :: _, h => simp [chkEs] at h
  | .cons ce (.cons c2 es), sc, vs, X, F, C, pos, h => by
    match vs, h with
    | v :: v2 :: vs, h =>
      have h0 := h
      rw [chkEs] at h0
      simp only [Bool.and_eq_true] at h0
      refine PE.imp (pe_or (sE ce sc v X F C h0.1.2) (sOr (.cons c2 es) sc (v2 :: vs) X F C pos h0.2)) fun σ H Q q => ?_
      obtain ⟨Hd, ρ, env, cs, d, cs', S, ek, e, q⟩ := q
      rw [evOr] at e
      split at e
      · rename_i cs1 e1; cases e
        exact tE.run S ek e1 fun _ _ _ v s1 S1 r1 => ⟨true, dn_bl.mp r1, iteT (q _ _ _ _ s1 S1 (dn_bl.mpr rfl))⟩
      · rename_i cs1 e1
        exact tE.run S ek e1 fun _ _ _ v s1 S1 r1 => ⟨false, dn_bl.mp r1, iteF ⟨_, _, env, cs1, d, cs', S1, ek.step s1, e, q.step s1⟩⟩
      · cases e
    | [], h => simp [chkEs] at h
    | [_], h => simp [chkEs] at h
theorem sTA : ∀ (es : Es) (sc : Scope) (vs : List Expr) (X : Cx), FxX φ k tb X → Cok k sc X → ∀ pos, chkEs tb X.N sc es vs = true → PW X (.BoolOp .And vs pos) (tTA X.K φ es)
  | .nil, sc, vs, X, F, C, pos, h => ⟨fun wh pins s σ H Q I q => by
    obtain ⟨Hd, ρ, env, cs, d, cs', S, ek, e, q⟩ := q
    simp [evTA] at e⟩
  | .cons ce .nil, sc, vs, X, F, C, pos, h => by
    match vs, h with
    | [v], h =>
      simp only [chkEs, Bool.and_eq_true] at h
      refine PW.imp (pw_and1 (sT ce sc v X F C h.1.2)) fun σ H Q q => ?_
      obtain ⟨Hd, ρ, env, cs, d, cs', S, ek, e, q⟩ := q
      exact ⟨Hd, ρ, env, cs, d, cs', S, ek, by simpa only [evTA] using e, q⟩
    | [], h => simp [chkEs] at h
    | _ :: _ :: _, h => simp [chkEs] at h
  | .cons ce (.cons c2 es), sc, vs, X, F, C, pos, h => by
    match vs, h with
    | v :: v2 :: vs, h =>
      have h0 := h
      rw [chkEs] at h0
      simp only [Bool.and_eq_true] at h0
      refine PW.imp (pw_and (sT ce sc v X F C h0.1.2) (sTA (.cons c2 es) sc (v2 :: vs) X F C pos h0.2)) fun σ H Q q => ?_
      obtain ⟨Hd, ρ, env, cs, d, cs', S, ek, e, q⟩ := q
      rw [evTA] at e
      split at e
      · rename_i cs1 e1
        exact ⟨Hd, ρ, env, cs, true, cs1, S, ek, e1, fun _ _ _ s1 S1 => iteT ⟨_, _, env, cs1, d, cs', S1, ek.step s1, e, fun _ _ _ s2 S2 => q _ _ _ (s1.trans s2) S2⟩⟩
      · rename_i cs1 e1; cases e
        exact ⟨Hd, ρ, env, cs, false, _, S, ek, e1, fun _ _ _ s1 S1 => iteF (q _ _ _ s1 S1)⟩
      · cases e
    | [], h => simp [chkEs] at h
    | [_], h => simp [chkEs] at h
theorem sTO : ∀ (es : Es) (sc : Scope) (vs : List Expr) (X : Cx), FxX φ k tb X → Cok k sc X → ∀ pos, chkEs tb X.N sc es vs = true → PW X (.BoolOp .Or vs pos) (tTO X.K φ es)
  | .nil, sc, vs, X, F, C, pos, h => ⟨fun wh pins s σ H Q I q => by
    obtain ⟨Hd, ρ, env, cs, d, cs', S, ek, e, q⟩ := q
    simp [evTO] at e⟩
  | .cons ce .nil, sc, vs, X, F, C, pos, h => by
    match vs, h with
    | [v], h =>
      simp only [chkEs, Bool.and_eq_true] at h
      refine PW.imp (pw_or1 (sT ce sc v X F C h.1.2)) fun σ H Q q => ?_
      obtain ⟨Hd, ρ, env, cs, d, cs', S, ek, e, q⟩ := q
      exact ⟨Hd, ρ, env, cs, d, cs', S, ek, by simpa only [evTO] using e, q⟩
    | [], h => simp [chkEs] at h
    | _ :: _ :: _, h => simp [chkEs] at h
  | .cons ce (.cons c2 es), sc, vs, X, F, C, pos, h => by
    match vs, h with
    | v :: v2 :: vs, h =>
      have h0 := h
      rw [chkEs] at h0
      simp only [Bool.and_eq_true] at h0
      refine PW.imp (pw_or (sT ce sc v X F C h0.1.2) (sTO (.cons c2 es) sc (v2 :: vs) X F C pos h0.2)) fun σ H Q q => ?_
      obtain ⟨Hd, ρ, env, cs, d, cs', S, ek, e, q⟩ := q
      rw [evTO] at e
      split at e
      · rename_i cs1 e1; cases e
        exact ⟨Hd, ρ, env, cs, true, _, S, ek, e1, fun _ _ _ s1 S1 => iteT (q _ _ _ s1 S1)⟩
      · rename_i cs1 e1
        exact ⟨Hd, ρ, env, cs, false, cs1, S, ek, e1, fun _ _ _ s1 S1 => iteF ⟨_, _, env, cs1, d, cs', S1, ek.step s1, e, fun _ _ _ s2 S2 => q _ _ _ (s1.trans s2) S2⟩⟩
      · cases e
    | [], h => simp [chkEs] at h
    | [_], h => simp [chkEs] at h
theorem sEs : ∀ (es : Es) (sc : Scope) (vs : List Expr) (X : Cx), FxX φ k tb X → Cok k sc X → chkEs tb X.N sc es vs = true → PA X vs (tEs X.K φ es)
  | .nil, sc, vs, X, F, C, h => by
    match vs, h with
    | [], h =>
      refine PA.imp pa_nil fun σ H Q q => ?_
      obtain ⟨Hd, ρ, env, cs, d, cs', S, ek, e, q⟩ := q
      simp only [evEs] at e; cases e
      exact q _ _ _ [] (Step.refl _ _ _) S DnL.nil
    | _ :: _, h => simp [chkEs] at h
  | .cons ce es, sc, vs, X, F, C, h => by
    match vs, h with
    | v :: vs, h =>
      simp only [chkEs, Bool.and_eq_true] at h
      refine PA.imp (pa_cons (sE ce sc v X F C h.1.2) (sEs es sc vs X F C h.2) (star_ok vs h.1.1)) fun σ H Q q => ?_
      obtain ⟨Hd, ρ, env, cs, d, cs', S, ek, e, q⟩ := q
      simp only [evEs] at e
      split at e
      · rename_i x cs1 e1
        split at e
        · rename_i xs cs2 e2; cases e
          exact tE.run S ek e1 fun _ _ _ v s1 S1 r1 => ⟨_, _, env, cs1, xs, _, S1, ek.step s1, e2, fun _ _ _ us s2 S2 r2 => q _ _ _ (v :: us) (s1.trans s2) S2 (DnL.cons (Dn.mono s2.ext _ _ r1) r2)⟩
        · cases e
      · cases e
    | [], h => simp [chkEs] at h
theorem sKw : ∀ (es : Es) (sc : Scope) (kws : List Keyword) (ks : List Str) (X : Cx), FxX φ k tb X → Cok k sc X → chkKw tb X.N sc es kws ks = true → PK X kws (tEs X.K φ es)
  | .nil, sc, kws, ks, X, F, C, h => by
    match kws, ks, h with
    | [], [], _ => exact pk_nil' fun σ H Q q => nilA (tb := tb) (X := X) (sc := sc) (es := .nil) (args := []) rfl rfl σ H Q q
    | _ :: _, _, h => simp [chkKw] at h
    | [], _ :: _, h => simp [chkKw] at h
  | .cons e es, sc, kws, ks, X, F, C, h => by
    match kws, ks, h with
    | ⟨some n, v, p⟩ :: kws, k' :: ks, h =>
      simp only [chkKw, Bool.and_eq_true] at h
      exact pk_cons' (sE e sc v X F C h.1.2) (sKw es sc kws ks X F C h.2)
    | ⟨none, v, p⟩ :: kws, _, h => simp [chkKw] at h
    | [], _, h => simp [chkKw] at h
    | ⟨some n, v, p⟩ :: kws, [], h => simp [chkKw] at h
theorem sO : ∀ (o : Eo) (sc : Scope) (v : Option Expr) (X : Cx), FxX φ k tb X → Cok k sc X → chkO tb X.N sc o v = true → PO X v (tO X.K φ o)
  | .no, sc, v, X, F, C, h => by
    match v, h with
    | none, h =>
      refine PO.imp po_none fun σ H Q q => ?_
      obtain ⟨Hd, ρ, env, cs, d, cs', S, ek, e, q⟩ := q
      simp only [evO] at e; cases e
      exact q _ _ _ (Step.refl _ _ _) S
    | some _, h => simp [chkO] at h
  | .so ce, sc, v, X, F, C, h => by
    match v, h with
    | some v, h =>
      simp only [chkO] at h
      refine PO.imp (po_some (sE ce sc v X F C h)) fun σ H Q q => ?_
      obtain ⟨Hd, ρ, env, cs, d, cs', S, ek, e, q⟩ := q
      simp only [evO] at e
      split at e
      · rename_i i cs1 e1; cases e
        exact tE.run S ek e1 fun _ _ _ v s1 S1 r1 => ⟨i, dn_int.mp r1, q _ _ _ s1 S1⟩
      · cases e
    | none, h => simp [chkO] at h
theorem sL : ∀ (l : L) (sc : Scope) (e : Expr) (X : Cx), FxX φ k tb X → Cok k sc X → chkL tb X.N sc l e = true → PE X e (tL X.K φ l)
  | .disp es, sc, e, X, F, C, h => by
    cases e <;> simp only [chkL] at h <;> try (cases h; done)
    rename_i xs pos
    refine PE.imp (pe_lst (sEs es sc xs X F C h)) fun σ H Q q => ?_
    obtain ⟨Hd, ρ, env, cs, d, cs', S, ek, e, q⟩ := q
    simp only [evL] at e
    split at e
    · rename_i ds cs1 e1
      split at e
      · rename_i hc; cases e
        exact ⟨Hd, ρ, env, cs, _, _, S, ek, e1, fun Hd' ρ' H' vs s S' r => ⟨by rw [r.length]; exact cap_le hc, fun p hp => newL q S s S' r hp⟩⟩
      · cases e
    · cases e
  | .ofSeq a, sc, e, X, F, C, h => by
    cases e <;> simp only [chkL] at h <;> try (cases h; done)
    rename_i fn args kws pos
    cases fn <;> (try simp only at h) <;> try (cases h; done)
    rename_i x px
    match args, kws, h with
    | [v], [], h =>
      simp only [Bool.and_eq_true] at h
      obtain ⟨⟨⟨h1, h2⟩, h3⟩, h4⟩ := h
      have ex := eq_of_beq h1
      subst ex
      refine PE.imp (pe_callTy call_list_of (C.gl _ h2) (F.blt _ (by decide)) (by decide +kernel) (pa_cons (sE a sc v X F C h4) pa_nil (star_ok [] h3)) (by decide) (by decide) (star_ok [] h3) rfl) fun σ H Q q => ?_
      obtain ⟨Hd, ρ, env, cs, d, cs', S, ek, e, q⟩ := q
      simp only [evL] at e
      split at e
      · rename_i xs cs1 e1; cases e
        refine tE.run S ek e1 fun _ _ _ v s1 S1 r1 => ?_
        obtain ⟨l, vs, rfl, h5, h6⟩ := dn_tup.mp r1
        exact ⟨l, vs, rfl, .inr (S1.seqT h5), fun p hp => newL q S s1 S1 h6 hp⟩
      · rename_i x cs1 _ e1
        split at e
        · rename_i xs e2; cases e
          refine tE.run S ek e1 fun _ _ _ v s1 S1 r1 => ?_
          obtain ⟨l, vs, rfl, h5, h6⟩ := seqOf_ok S1 e2 r1
          exact ⟨l, vs, rfl, .inl h5, fun p hp => newL q S s1 S1 h6 hp⟩
        · cases e
      · cases e
  | .cat a b, sc, e, X, F, C, h => by
    cases e <;> simp only [chkL] at h <;> try (cases h; done)
    rename_i l o r pos
    cases o <;> (try simp only at h) <;> try (cases h; done)
    simp only [Bool.and_eq_true] at h
    refine PE.imp (pe_op op_cat (sE a sc l X F C h.1) (sE b sc r X F C h.2)) fun σ H Q q => ?_
    obtain ⟨Hd, ρ, env, cs, d, cs', S, ek, e, q⟩ := q
    simp only [evL] at e
    split at e
    · rename_i x cs1 e1
      split at e
      · rename_i y cs2 e2
        split at e
        · rename_i xs ys e3 e4
          split at e
          · rename_i hc; cases e
            refine two S ek e1 e2 fun Hd' ρ' H' v u s S' r1 r2 => ?_
            obtain ⟨p1, us, rfl, h1, h2⟩ := lstOf_ok S' e3 r1
            obtain ⟨p2, ws, rfl, h3, h4⟩ := lstOf_ok S' e4 r2
            exact ⟨p1, p2, us, ws, rfl, rfl, h1, h3, by rw [h2.length, h4.length]; exact cap_le hc, fun p hp => newL q S s S' (h2.app h4) hp⟩
          · cases e
        · cases e
      · cases e
    · cases e
  | .rep a b, sc, e, X, F, C, h => by
    cases e <;> simp only [chkL] at h <;> try (cases h; done)
    rename_i l o r pos
    cases o <;> (try simp only at h) <;> try (cases h; done)
    simp only [Bool.and_eq_true] at h
    refine PE.imp (pe_op op_rep (sE a sc l X F C h.1) (sE b sc r X F C h.2)) fun σ H Q q => ?_
    obtain ⟨Hd, ρ, env, cs, d, cs', S, ek, e, q⟩ := q
    simp only [evL] at e
    split at e
    · rename_i x cs1 e1
      split at e
      · rename_i n cs2 e2
        split at e
        · rename_i xs e3
          split at e
          · rename_i hc; cases e
            refine two S ek e1 e2 fun Hd' ρ' H' v u s S' r1 r2 => ?_
            obtain ⟨p1, us, rfl, h1, h2⟩ := lstOf_ok S' e3 r1
            exact ⟨p1, n, us, rfl, dn_int.mp r2, h1, hc.1, hc.2.1, by rw [h2.length]; exact cap_le hc.2.2, fun p hp => newL q S s S' (h2.rep _) hp⟩
          · cases e
        · cases e
      · cases e
    · cases e
  | .slice a lo hi, sc, e, X, F, C, h => by
    cases e <;> simp only [chkL] at h <;> try (cases h; done)
    rename_i x y pos
    cases y <;> (try simp only at h) <;> try (cases h; done)
    rename_i l u st p2
    cases st with
    | some _ => exact absurd h (by simp)
    | none =>
      simp only [Bool.and_eq_true] at h
      refine PE.imp (pe_slice sl_list (sE a sc x X F C h.1.1) (sO lo sc l X F C h.1.2) (sO hi sc u X F C h.2)) fun σ H Q q => ?_
      obtain ⟨Hd, ρ, env, cs, d, cs', S, ek, e, q⟩ := q
      simp only [evL] at e
      split at e
      · rename_i x cs1 e1
        split at e
        · rename_i n1 cs2 e2
          split at e
          · rename_i n2 cs3 e3
            split at e
            · rename_i xs e4; cases e
              refine tE.run S ek e1 fun _ _ _ v s1 S1 r1 => ⟨_, _, env, _, _, _, S1, ek.step s1, e2, fun _ _ _ s2 S2 => ⟨_, _, env, _, _, _, S2, (ek.step s1).step s2, e3, fun _ _ _ s3 S3 => ?_⟩⟩
              obtain ⟨p1, us, rfl, h1, h2⟩ := seqOf_ok S3 e4 (Dn.mono (s2.trans s3).ext _ _ r1)
              exact ⟨p1, us, rfl, h1, fun p hp => newL q S ((s1.trans s2).trans s3) S3 (cutD_ok _ _ h2) hp⟩
            · cases e
          · cases e
        · cases e
      · cases e
  | .comp own t it c elt, sc, e, X, F, C, h => by
    cases e <;> simp only [chkL] at h <;> try (cases h; done)
    rename_i el gens scope pos
    match gens, h with
    | [⟨tg, iter, ifs, 0⟩], h =>
      simp only [Bool.and_eq_true] at h
      obtain ⟨⟨⟨⟨⟨h1, h2⟩, h3⟩, h4⟩, h5⟩, h6⟩ := h
      have B0 := blkOk_by h1
      have B : BlkOk X.N X.env.scope scope own := ⟨B0.kind, B0.uniq, B0.ix, fun y hy hf => C.cf _ (B0.free y hy hf), B0.own⟩
      refine PE.imp (pe_lc (wi := tI X.K φ it) (g := tG X.K φ t) (tt := tC' X.K φ c) (te := tE X.K φ elt) C.calm C.nd (sI it sc tg iter X F C h3) B (fun s H Ca cl fp => sG t scope tg (X.blk s H scope (compEnvC scope cl Ca X.env) fp) F (C.blk scope s H Ca cl fp) h4)
        (fun s H Ca cl fp => sC c scope ifs (X.blk s H scope (compEnvC scope cl Ca X.env) fp) F (C.blk scope s H Ca cl fp) h6) (fun s H Ca cl fp => sE elt scope el (X.blk s H scope (compEnvC scope cl Ca X.env) fp) F (C.blk scope s H Ca cl fp) h5) (fold_ok h2)) fun σ H Q q => ?_
      obtain ⟨Hd, ρ, env, cs, ds, cs', S, ek, e, q⟩ := q
      simp only [evL] at e
      split at e
      · rename_i its cs1 e1
        refine ⟨Hd, ρ, env, cs, its, cs1, S, ek, e1, fun J Hd1 ρ1 H1 s1 S1 wk => fun D hD => ?_⟩
        refine compRun q s1 S1 ek wk hD (s1.new S S1 hD) e fun d cs2 r er => ?_
        split at er
        · rename_i env1 cs3 e2
          split at er
          · rename_i hin
            refine ⟨hin, env1, cs3, ?_⟩
            split at er
            · rename_i cs4 e3
              split at er
              · rename_i y cs5 e4; cases er
                exact ⟨true, cs4, e2, e3, .inl ⟨rfl, y, cs5, e4, rfl⟩⟩
              · cases er
            · rename_i cs4 e3; cases er
              exact ⟨false, cs4, e2, e3, .inr ⟨rfl, rfl⟩⟩
            · cases er
          · cases er
        · cases er
      · cases e
  | .sorted _, sc, e, X, F, C, h => by simp [chkL] at h
  | .zipL a b, sc, e, X, F, C, h => by
    unfold chkL at h
    split at h
    · rename_i x px y py v u p2 pos
      simp only [Bool.and_eq_true] at h
      obtain ⟨⟨⟨⟨⟨⟨⟨h1, h2⟩, h3⟩, h4⟩, h5⟩, h6⟩, h7⟩, h8⟩ := h
      have e1 := eq_of_beq h1
      have e2 := eq_of_beq h3
      subst e1 e2
      have st2 := star_ok (env := X.env) [] h6
      have st1 := star_ok (env := X.env) [u] h5
      refine PE.imp (pe_listZip C.calm (C.gl _ h2) (F.blt _ (by decide)) (C.gl _ h4) (F.blt _ (by decide)) (pa_cons (sE a sc v X F C h7) (pa_cons (sE b sc u X F C h8) pa_nil st2) st1) st1 (by rw [st2]; rfl)) fun σ H Q q => ?_
      obtain ⟨Hd, ρ, env, cs, ds, cs', S, ek, e, q⟩ := q
      simp only [evL] at e
      split at e
      · rename_i x cs1 e1
        split at e
        · rename_i y cs2 e2
          split at e
          · rename_i hc; cases e
            refine tE.run S ek e1 fun _ _ _ v s1 S1 r1 => tE.run S1 (ek.step s1) e2 fun Hd2 ρ2 H2 u s2 S2 r2 => ⟨x, y, by rw [dn_str.mp r1, dn_str.mp r2], cap_le hc, fun l p nd hl hp hz => ?_⟩
            obtain ⟨S3, s3⟩ := frozenT l S2 nd fun q hq => (hl q hq).1
            have hp' : updT H2 l p = none := by rw [updT_ne fun q hq => Ne.symm (hl q hq).2]; exact hp
            exact newL q S ((s1.trans s2).trans s3) S3 (dnl_zip _ _ l (fun q hq => updT_at nd hq) hz) hp'
          · cases e
        · cases e
      · cases e
    · cases h
theorem sC : ∀ (c : Eo) (sc : Scope) (vs : List Expr) (X : Cx), FxX φ k tb X → Cok k sc X → chkC tb X.N sc c vs = true → PTs X vs (tC' X.K φ c)
  | .no, sc, vs, X, F, C, h => by
    match vs, h with
    | [], h =>
      refine ⟨fun pins s σ H Q I q => ?_⟩
      obtain ⟨Hd, ρ, env, cs, d, cs', S, ek, e, q⟩ := q
      simp only [evC] at e; cases e
      exact pts_nil.run pins s σ H Q I (q _ _ _ (Step.refl _ _ _) S)
    | _ :: _, h => simp [chkC] at h
  | .so ce, sc, vs, X, F, C, h => by
    match vs, h with
    | [v], h =>
      simp only [chkC] at h
      refine ⟨fun pins s σ H Q I q => (pts_one (sT ce sc v X F C h)).run pins s σ H Q I ?_⟩
      obtain ⟨Hd, ρ, env, cs, d, cs', S, ek, e, q⟩ := q
      exact ⟨Hd, ρ, env, cs, d, cs', S, ek, by simpa only [evC] using e, q⟩
    | [], h => simp [chkC] at h
    | _ :: _ :: _, h => simp [chkC] at h
theorem sI : ∀ (it : I) (sc : Scope) (tg e : Expr) (X : Cx), FxX φ k tb X → Cok k sc X → chkI tb X.N sc it tg e = true → PI X tg e (tI X.K φ it)
  | .lst a, sc, tg, e, X, F, C, h => by
    simp only [chkI] at h
    refine PI.imp (pi_list (sE a sc e X F C h)) fun σ H R q => ?_
    obtain ⟨Hd, ρ, env, cs, src, cs', S, ek, e, q⟩ := q
    simp only [evI] at e
    split at e
    · rename_i d cs1 e1
      split at e
      · rename_i a e2; cases e
        refine tE.run S ek e1 fun _ _ _ v s1 S1 r1 => ?_
        obtain ⟨l, rfl, h5, h6⟩ := held_src S1 e2 r1
        exact ⟨l, rfl, h5, q _ _ _ _ s1 S1 (walk_l h6)⟩
      · cases e
    · cases e
  | .tup a, sc, tg, e, X, F, C, h => by
    simp only [chkI] at h
    refine PI.imp (pi_tup (sE a sc e X F C h)) fun σ H R q => ?_
    obtain ⟨Hd, ρ, env, cs, ds, cs', S, ek, e, q⟩ := q
    simp only [evI] at e
    split at e
    · rename_i xs cs1 e1; cases e
      refine tE.run S ek e1 fun _ _ _ v s1 S1 r1 => ?_
      obtain ⟨l, vs, rfl, h5, h6⟩ := dn_tup.mp r1
      exact ⟨l, rfl, ⟨vs, S1.seqT h5⟩, q _ _ _ _ s1 S1 (walk_t (held_t h5 h6))⟩
    · cases e
  | .str a, sc, tg, e, X, F, C, h => by
    simp only [chkI] at h
    refine PI.imp (pi_str (sE a sc e X F C h)) fun σ H R q => ?_
    obtain ⟨Hd, ρ, env, cs, ds, cs', S, ek, e, q⟩ := q
    simp only [evI] at e
    split at e
    · rename_i x cs1 e1; cases e
      exact tE.run S ek e1 fun _ _ _ v s1 S1 r1 => ⟨x, dn_str.mp r1, q _ _ _ _ s1 S1 (walk_s x)⟩
    · cases e
  | .rng1 a, sc, tg, e, X, F, C, h => by
    cases e <;> simp only [chkI] at h <;> try (cases h; done)
    rename_i fn args kws pos
    cases fn <;> (try simp only at h) <;> try (cases h; done)
    rename_i x px
    match args, kws, h with
    | [v], [], h =>
      simp only [Bool.and_eq_true] at h
      obtain ⟨⟨⟨h1, h2⟩, h3⟩, h4⟩ := h
      have ex := eq_of_beq h1
      subst ex
      refine PI.imp (pi_range1 (C.gl _ h2) (F.blt _ (by decide)) (pa_cons (sE a sc v X F C h4) pa_nil (star_ok [] h3)) (star_ok [] h3)) fun σ H R q => ?_
      obtain ⟨Hd, ρ, env, cs, ds, cs', S, ek, e, q⟩ := q
      simp only [evI] at e
      split at e
      · rename_i j cs1 e1
        split at e
        · rename_i hc; cases e
          refine tE.run S ek e1 fun _ _ _ v s1 S1 r1 => ⟨j, by rw [dn_int.mp r1], hc.1, hc.2, q _ _ _ _ s1 S1 (walk_r 0 _)⟩
        · cases e
      · cases e
  | .rng2 a b, sc, tg, e, X, F, C, h => by
    cases e <;> simp only [chkI] at h <;> try (cases h; done)
    rename_i fn args kws pos
    cases fn <;> (try simp only at h) <;> try (cases h; done)
    rename_i x px
    match args, kws, h with
    | [v, u], [], h =>
      simp only [Bool.and_eq_true] at h
      obtain ⟨⟨⟨⟨⟨h1, h2⟩, h3⟩, h3'⟩, h4⟩, h5⟩ := h
      have ex := eq_of_beq h1
      subst ex
      have st2 := star_ok (env := X.env) [] h3'
      have st1 := star_ok (env := X.env) [u] h3
      refine PI.imp (pi_range2 (C.gl _ h2) (F.blt _ (by decide)) (pa_cons (sE a sc v X F C h4) (pa_cons (sE b sc u X F C h5) pa_nil st2) st1) (by rw [st1, st2]; rfl) st2) fun σ H R q => ?_
      obtain ⟨Hd, ρ, env, cs, ds, cs', S, ek, e, q⟩ := q
      simp only [evI] at e
      split at e
      · rename_i i cs1 e1
        split at e
        · rename_i j cs2 e2
          split at e
          · rename_i hc; cases e
            exact tE.run S ek e1 fun _ _ _ v s1 S1 r1 => tE.run S1 (ek.step s1) e2 fun _ _ _ u s2 S2 r2 => ⟨i, j, by rw [dn_int.mp r1, dn_int.mp r2], ⟨hc.1.1, hc.1.2, hc.2.1, hc.2.2⟩, q _ _ _ _ (s1.trans s2) S2 (walk_r _ _)⟩
          · cases e
        · cases e
      · cases e
  | .enum a, sc, tg, e, X, F, C, h => by
    cases tg <;> (try simp only [chkI] at h) <;> try (cases h; done)
    cases e <;> (try simp only at h) <;> try (cases h; done)
    rename_i fn args kws pos
    cases fn <;> (try simp only at h) <;> try (cases h; done)
    rename_i x px
    match args, kws, h with
    | [v], [], h =>
      simp only [Bool.and_eq_true] at h
      obtain ⟨⟨⟨h1, h2⟩, h3⟩, h4⟩ := h
      have ex := eq_of_beq h1
      subst ex
      refine PI.imp (pi_enum (C.gl _ h2) (F.blt _ (by decide)) (pa_cons (sE a sc v X F C h4) pa_nil (star_ok [] h3)) (star_ok [] h3)) fun σ H R q => ?_
      obtain ⟨Hd, ρ, env, cs, ds, cs', S, ek, e, q⟩ := q
      simp only [evI] at e
      split at e
      · rename_i d cs1 e1
        split at e
        · rename_i a e2; cases e
          refine tE.run S ek e1 fun _ _ _ v s1 S1 r1 => ?_
          obtain ⟨l, rfl, ⟨vs, h5⟩, h6⟩ := held_src S1 e2 r1
          exact ⟨l, vs, rfl, h5, q _ _ _ _ s1 S1 (walk_e h6)⟩
        · cases e
      · cases e
  | .zip a b, sc, tg, e, X, F, C, h => by
    cases tg <;> (try simp only [chkI] at h) <;> try (cases h; done)
    cases e <;> (try simp only at h) <;> try (cases h; done)
    rename_i fn args kws pos
    cases fn <;> (try simp only at h) <;> try (cases h; done)
    rename_i x px
    match args, kws, h with
    | [v, u], [], h =>
      simp only [Bool.and_eq_true] at h
      obtain ⟨⟨⟨⟨⟨h1, h2⟩, h3⟩, h3'⟩, h4⟩, h5⟩ := h
      have ex := eq_of_beq h1
      subst ex
      have st2 := star_ok (env := X.env) [] h3'
      have st1 := star_ok (env := X.env) [u] h3
      refine PI.imp (RZ.pi_zipA (C.gl _ h2) (F.blt _ (by decide)) (pa_cons (sE a sc v X F C h4) (pa_cons (sE b sc u X F C h5) pa_nil st2) st1) st1 (by rw [st2]; rfl)) fun σ H R q => ?_
      obtain ⟨Hd, ρ, env, cs, ds, cs', S, ek, e, q⟩ := q
      simp only [evI] at e
      split at e
      · rename_i x cs1 e1
        split at e
        · rename_i y cs2 e2
          refine tE.run S ek e1 fun _ _ _ v s1 S1 r1 => tE.run S1 (ek.step s1) e2 fun _ _ _ u s2 S2 r2 => ?_
          have r1' := Dn.mono s2.ext _ _ r1
          split at e
          · cases e
            obtain ⟨l, vs, rfl, h5, h6⟩ := dn_tup.mp r1'
            obtain ⟨l2, us, rfl, h7, h8⟩ := dn_tup.mp r2
            exact ⟨l, l2, vs, us, rfl, .inr ⟨S2.seqT h5, S2.seqT h7, q _ _ _ _ (s1.trans s2) S2 (walk_zt (held_t h5 h6) (held_t h7 h8))⟩⟩
          · split at e
            · rename_i a1 a2 e3 e4; cases e
              obtain ⟨l, rfl, ⟨vs, h5⟩, h6⟩ := held_src S2 e3 r1'
              obtain ⟨l2, rfl, ⟨us, h7⟩, h8⟩ := held_src S2 e4 r2
              exact ⟨l, l2, vs, us, rfl, .inl ⟨h5, h7, q _ _ _ _ (s1.trans s2) S2 (walk_z h6 h8)⟩⟩
            · cases e
        · cases e
      · cases e
  | .zipT a b, sc, tg, e, X, F, C, h => by
    cases tg <;> (try simp only [chkI] at h) <;> try (cases h; done)
    cases e <;> (try simp only at h) <;> try (cases h; done)
    rename_i fn args kws pos
    cases fn <;> (try simp only at h) <;> try (cases h; done)
    rename_i x px
    match args, kws, h with
    | [v, u], [], h =>
      simp only [Bool.and_eq_true] at h
      obtain ⟨⟨⟨⟨⟨h1, h2⟩, h3⟩, h3'⟩, h4⟩, h5⟩ := h
      have ex := eq_of_beq h1
      subst ex
      have st2 := star_ok (env := X.env) [] h3'
      have st1 := star_ok (env := X.env) [u] h3
      refine PI.imp (pi_zipS (C.gl _ h2) (F.blt _ (by decide)) (pa_cons (sE a sc v X F C h4) (pa_cons (sE b sc u X F C h5) pa_nil st2) st1) st1 (by rw [st2]; rfl)) fun σ H R q => ?_
      obtain ⟨Hd, ρ, env, cs, ds, cs', S, ek, e, q⟩ := q
      simp only [evI] at e
      split at e
      · rename_i x cs1 e1
        split at e
        · rename_i y cs2 e2; cases e
          exact tE.run S ek e1 fun _ _ _ v s1 S1 r1 => tE.run S1 (ek.step s1) e2 fun _ _ _ u s2 S2 r2 => ⟨x, y, by rw [dn_str.mp r1, dn_str.mp r2], q _ _ _ _ (s1.trans s2) S2 (walk_zs x y)⟩
        · cases e
      · cases e
  | .zipS a, sc, tg, e, X, F, C, h => by
    unfold chkI at h
    split at h
    · rename_i x px v sp pos
      simp only [Bool.and_eq_true] at h
      obtain ⟨⟨h1, h2⟩, h4⟩ := h
      have ex := eq_of_beq h1
      subst ex
      refine PI.imp (pi_zipStar (C.gl _ h2) (F.blt _ (by decide)) (sE a sc v X F C h4)) fun σ H R q => ?_
      obtain ⟨Hd, ρ, env, cs, ds, cs', S, ek, e, q⟩ := q
      simp only [evI] at e
      split at e
      · rename_i d cs1 e1
        split at e
        · rename_i x y e2; cases e
          refine tE.run S ek e1 fun _ _ _ w s1 S1 r1 => ?_
          obtain ⟨a, rfl, hs⟩ := pairOf_ok S1 e2 r1
          exact ⟨a, x, y, rfl, hs, q _ _ _ _ s1 S1 (walk_zs x y)⟩
        · cases e
      · cases e
    · cases h
theorem sG : ∀ (t : Tgt) (sc : Scope) (e : Expr) (X : Cx), FxX φ k tb X → Cok k sc X → chkG tb X.N sc t e = true → PG X e (tG X.K φ t)
  | .nm i, sc, e, X, F, C, h => by
    cases e <;> simp only [chkG] at h <;> try (cases h; done)
    rename_i x pos
    simp only [Bool.and_eq_true, decide_eq_true_eq] at h
    obtain ⟨l1, l2⟩ := C.loc x h.2
    refine PG.imp (pg_name C.nd h.1 l1 l2) fun v σ H Q q => ?_
    obtain ⟨Hd, ρ, env, cs, d, env', cs', S, ek, r, e, q⟩ := q
    simp only [evG] at e; cases e
    exact q _ _ _ _ (Step.refl _ _ _) S (ek.put r) fun vs hv => sub_wipe (by simpa only [tgtIn] using hv)
  | .tp ts, sc, e, X, F, C, h => by
    cases e <;> simp only [chkG] at h <;> try (cases h; done)
    rename_i xs n pos
    obtain ⟨a1, a2⟩ := each_ok (env := X.env) ts xs h
    refine PG.imp (pg_tup C.calm (sGs ts sc xs X F C h) a1 a2) fun v σ H Q q => ?_
    obtain ⟨Hd, ρ, env, cs, d, env', cs', S, ek, r, e, q⟩ := q
    cases d with
    | tup ds =>
      simp only [evG] at e
      obtain ⟨a, vs, rfl, h1, h2⟩ := dn_tup.mp r
      refine ⟨a, vs, rfl, S.seqT h1, ?_, Hd, ρ, env, cs, ds, env', cs', S, ek, h2, e, fun Hd' ρ' H' σ' s S' ek' w => q _ _ _ _ s S' ek' fun vs hv => w vs (by simpa only [tgtIn] using hv)⟩
      rw [h2.length, gs_len ts xs h, gs_lenD ts ds env cs env' cs' e]
    | _ => simp [evG] at e
  | .sub o i, sc, e, X, F, C, h => by
    cases e <;> simp only [chkG] at h <;> try (cases h; done)
    rename_i x y pos
    simp only [Bool.and_eq_true] at h
    refine PG.imp (pg_sub (sE o sc x X F C h.1.2) (sE i sc y X F C h.2) set_list (sub_asg h.1.1)) fun v σ H Q q => ?_
    obtain ⟨Hd, ρ, env, cs, d, env', cs', S, ek, r, e, q⟩ := q
    simp only [evG] at e
    split at e
    · rename_i n cs1 e1
      split at e
      · rename_i m cs2 e2
        split at e
        · rename_i xs e3
          split at e
          · rename_i j e4; cases e
            refine two S ek e1 e2 fun Hd' ρ' H' v1 u1 s S' r1 r2 => ?_
            obtain ⟨a, vs, rfl, h1, h2, h3⟩ := cell_at S' e3 r1
            refine ⟨a, vs, m, j, rfl, dn_int.mp r2, h2, by rw [h3.length]; exact e4, ?_⟩
            have s2 : Step Hd' ρ' H' Hd' ρ' (upd H' a (.lst (vs.set j v))) := step_store h1
            exact q _ _ _ _ (s.trans s2) (S'.store h1 ⟨_, upd_same, h3.set _ (Dn.mono s.ext _ _ r)⟩) ((ek.step s).step s2) fun vs hv => by simp [tgtIn] at hv
          · cases e
        · cases e
      · cases e
    · cases e
theorem sGs : ∀ (ts : Tgts) (sc : Scope) (vs : List Expr) (X : Cx), FxX φ k tb X → Cok k sc X → chkGs tb X.N sc ts vs = true → PGs X vs (tGs X.K φ ts)
  | .nil, sc, vs, X, F, C, h => by
    match vs, h with
    | [], h =>
      refine PGs.imp pgs_nil fun us σ H Q q => ?_
      obtain ⟨Hd, ρ, env, cs, ds, env', cs', S, ek, r, e, q⟩ := q
      cases ds with
      | nil =>
        simp only [evGs] at e; cases e
        exact ⟨r.of_nil, q _ _ _ _ (Step.refl _ _ _) S ek fun _ _ => rfl⟩
      | cons _ _ => simp [evGs] at e
    | _ :: _, h => simp [chkGs] at h
  | .cons t ts, sc, vs, X, F, C, h => by
    match vs, h with
    | v :: vs, h =>
      simp only [chkGs, Bool.and_eq_true] at h
      refine PGs.imp (pgs_cons (sG t sc v X F C h.1.2) (sGs ts sc vs X F C h.2) (each_cons vs h.1.1)) fun us σ H Q q => ?_
      obtain ⟨Hd, ρ, env, cs, ds, env', cs', S, ek, r, e, q⟩ := q
      cases ds with
      | nil => simp [evGs] at e
      | cons d ds =>
        simp only [evGs] at e
        split at e
        · rename_i env1 cs1 e1
          obtain ⟨u, rs, rfl, r1, r2⟩ := r.of_cons
          exact ⟨u, rs, rfl, Hd, ρ, env, cs, d, env1, cs1, S, ek, r1, e1, fun Hd' ρ' H' σ' s S' ek' w => ⟨Hd', ρ', env1, cs1, ds, env', cs', S', ek', DnL.mono s.ext _ _ r2, e, fun Hd2 ρ2 H2 σ2 s2 S2 ek2 w2 => q _ _ _ _ (s.trans s2) S2 ek2 fun vs hv => by
            simp only [tgtsIn, Bool.and_eq_true] at hv
            rw [w2 vs hv.2, w vs hv.1]⟩⟩
        · cases e
    | [], h => simp [chkGs] at h
end
end
end Mc
set_option Elab.async false
set_option linter.all false
set_option maxRecDepth 100000
set_option maxHeartbeats 4000000
namespace Mc
open PySem PySem.Spec PyProof.Rows L2

/-! ### which stores are made from the right -/
def swapOf (kind : Str → Option NameKind) (bk : Bool) (ts vs : List Expr) : Option (Option (List Str)) :=
  if (!(ts.length == 2 || ts.length == 3) || vs.length != ts.length || !bk) = true then some none else
  if (vs.any fun | .Starred .. => true | _ => false) = true then some none else
  let line := (ts.head?.map (·.pos.line)).getD 0
  let names := ts.filterMap fun
    | .Name id pos => if (kind id == some .local && pos.line == line) = true then some id else none
    | _ => none
  if (names.length != ts.length || names.eraseDups.length != names.length) = true then some none else
  if vs.all (foldedForSure 8) = true then some none else
  if vs.all (constantsAlone 8) = true then none else some (some names)
theorem swapOf_ok {ts vs : List Expr} {k k2 : Nat} {pt p2 : Pos} {env : PySem.Env} {r : Option (List Str)} (h : swapOf env.kindOf (env.blockKind == .function) ts vs = some r) : swappedStores [.Tuple ts k pt] (.Tuple vs k2 p2) env = pure r := by
  unfold swapOf at h
  unfold swappedStores
  simp only [pure_bind]
  split at h
  · rename_i c; cases h; exact if_pos c
  · rename_i c
    rw [if_neg (by exact c)]
    split at h
    · rename_i c; cases h; exact if_pos c
    · rename_i c
      rw [if_neg (by exact c)]
      simp only at h
      split at h
      · rename_i c; cases h; exact if_pos c
      · rename_i c
        rw [if_neg (by exact c)]
        split at h
        · rename_i c; cases h; exact if_pos c
        · rename_i c
          rw [if_neg (by exact c)]
          split at h
          · cases h
          · rename_i c
            rw [if_neg (by exact c)]
            cases h; rfl
theorem sw_name {el : Expr} {gs : List Comprehension} {scope : Scope} {pos p : Pos} {t : Str} {l : Nat} {env : PySem.Env} : swapsWith (.ListComp el gs scope pos) (some (.Name t p)) l env = pure (env.blockKind == .function && env.kindOf t == some .local && p.line == pos.line && !(scope.names.any fun (n, k) => n == t && (k == .local || k == .cell))) := rfl
def notTup : Expr → Bool | .Tuple _ _ _ => false | _ => true
def notList : Expr → Bool | .List _ _ => false | _ => true
theorem swapped_none {t v : Expr} {env : PySem.Env} (h : (notTup t && notList t || notTup v) = true) : swappedStores [t] v env = pure none := by
  cases t <;> cases v <;> first | rfl | (simp [notTup, notList] at h; done)

/-! ### statements against the text -/
section
variable (tb : Tb) (N : List Str) (sc : Scope)
mutual
def chkS : S → Stmt → Bool
  | .ex e, s => (match s with | .Expr v _ => notComp v && chkE tb N sc e v | _ => false)
  | .asg t e, s => (match s with
    | .Assign [tg] v _ => notStar tg && chkG tb N sc t tg && chkE tb N sc e v && (match tg, v with
      | .Tuple ts _ _, .Tuple vs _ _ => decide (swapOf (fun x => sc.names.lookup x) true ts vs = some none)
      | .Name x p, .ListComp _ _ scope q => !(decide (sc.names.lookup x = some .local) && (p.line == q.line) && !(scope.names.any fun (n, k) => n == x && (k == .local || k == .cell)))
      | tg, v => (notTup tg && notList tg || notTup v) && notComp v)
    | _ => false)
  | .asgC i m l, s => (match s with
    | .Assign [.Name x p] (.ListComp el gs scope q) _ => decide (N[i]? = some x) && decide (sc.names.lookup x = some .local) && (p.line == q.line) && !(scope.names.any fun (n, k) => n == x && (k == .local || k == .cell)) && chkL tb N sc l (.ListComp el gs scope q)
    | _ => false)
  | .par is es, s => (match s with
    | .Assign [.Tuple [.Name x px, .Name y py] _ _] (.Tuple [a, b] _ _) _ => decide (swapOf (fun x => sc.names.lookup x) true [.Name x px, .Name y py] [a, b] = some (some [x, y])) &&
        (match is with | [i, j] => decide (N[i]? = some x) && decide (N[j]? = some y) && decide (i ≠ j) | _ => false) && decide (sc.names.lookup x = some .local) && decide (sc.names.lookup y = some .local) && chkEs tb N sc es [a, b]
    | .Assign [.Tuple [.Name x px, .Name y py, .Name z pz] _ _] (.Tuple [a, b, c] _ _) _ => decide (swapOf (fun x => sc.names.lookup x) true [.Name x px, .Name y py, .Name z pz] [a, b, c] = some (some [x, y, z])) &&
        (match is with | [i, j, l] => decide (N[i]? = some x) && decide (N[j]? = some y) && decide (N[l]? = some z) && decide (i ≠ j) && decide (i ≠ l) && decide (j ≠ l) | _ => false) && decide (sc.names.lookup x = some .local) && decide (sc.names.lookup y = some .local) && decide (sc.names.lookup z = some .local) && chkEs tb N sc es [a, b, c]
    | _ => false)
  | .aug i o e, s => (match s with | .AugAssign (.Name x _) p v _ => decide (p = o) && (decide (o = .Add) || decide (o = .Sub)) && decide (N[i]? = some x) && isLoc sc x && chkE tb N sc e v | _ => false)
  | .ifs c a b, s => (match s with | .If t x y _ => chkE tb N sc c t && chkSs a x && chkSs b y | _ => false)
  | .for t it b, s => (match s with | .For tg iter body [] _ => notSet iter && chkI tb N sc it tg iter && chkG tb N sc t tg && chkSs b body | _ => false)
  | .whl c b, s => (match s with | .While t body [] _ => chkE tb N sc c t && chkSs b body | _ => false)
  | .ret e, s => (match s with | .Return (some v) _ => chkE tb N sc e v | _ => false)
  | .retN, s => (match s with | .Return none _ => true | _ => false)
  | .pass, s => (match s with | .Pass _ => true | _ => false)
  | .brk, s => (match s with | .Break _ => true | _ => false)
  | .cont, s => (match s with | .Continue _ => true | _ => false)
  | .never, _ => true
  | .fset c o f e, s => (match s with | .Assign [.Attribute x nm _] v _ => nm == f && tb.flds.contains (c, f) && notComp v && chkE tb N sc o x && chkE tb N sc e v | _ => false)
def chkSs : Ss → List Stmt → Bool
  | .nil, ss => (match ss with | [] => true | _ => false)
  | .cons s r, ss => (match ss with | x :: xs => chkS s x && chkSs r xs | [] => false)
end
end

/-! ### where a def's body stands -/
structure Sok (k : Nat) (sc : Scope) (X : Cx) : Prop extends Cok k sc X where
  scq : X.env.scope = sc
  bk : (X.env.blockKind == .function) = true
  po : PassesOwn (model X.prog X.w) X.A X.env X.xe
theorem Sok.kind {k : Nat} {sc : Scope} {X : Cx} (C : Sok k sc X) (x : Str) : X.env.kindOf x = sc.names.lookup x := by rw [← C.scq]; rfl
def PostR (K : PySem.W.Frag) (Hd : Hp) (ρ : List Addr) (H : Hp) (r : R) (D : Ends) : Prop :=
  match r with
  | .nx env' cs' => ∀ Hd' ρ' H' σ', Step Hd ρ H Hd' ρ' H' → Sim K Hd' ρ' cs' H' → EK K σ' Hd' ρ' env' → D.nx σ' H'
  | .bk env' cs' => ∀ Hd' ρ' H' σ', Step Hd ρ H Hd' ρ' H' → Sim K Hd' ρ' cs' H' → EK K σ' Hd' ρ' env' → D.bk σ' H'
  | .ct env' cs' => ∀ Hd' ρ' H' σ', Step Hd ρ H Hd' ρ' H' → Sim K Hd' ρ' cs' H' → EK K σ' Hd' ρ' env' → D.ct σ' H'
  | .rt d cs' => Post K Hd ρ H cs' d D.rt
theorem PostR.step {K : PySem.W.Frag} {Hd H Hd1 H1 : Hp} {ρ ρ1 : List Addr} {r : R} {D : Ends} (p : PostR K Hd ρ H r D) (s : Step Hd ρ H Hd1 ρ1 H1) : PostR K Hd1 ρ1 H1 r D := by
  cases r with
  | nx _ _ => exact fun _ _ _ _ s' S e => p _ _ _ _ (s.trans s') S e
  | bk _ _ => exact fun _ _ _ _ s' S e => p _ _ _ _ (s.trans s') S e
  | ct _ _ => exact fun _ _ _ _ s' S e => p _ _ _ _ (s.trans s') S e
  | rt _ _ => exact Post.step (show Post _ _ _ _ _ _ _ from p) s
def tS (K : PySem.W.Frag) (φ : Phi) (w : Nat) (s : S) : TS := fun D σ H => ∃ Hd ρ env cs r, Sim K Hd ρ cs H ∧ EK K σ Hd ρ env ∧ evS φ w s env cs = some r ∧ PostR K Hd ρ H r D
def tSs (K : PySem.W.Frag) (φ : Phi) (w : Nat) (s : Ss) : TS := fun D σ H => ∃ Hd ρ env cs r, Sim K Hd ρ cs H ∧ EK K σ Hd ρ env ∧ evSs φ w s env cs = some r ∧ PostR K Hd ρ H r D
section
variable {φ : Phi} {k : Nat} {tb : Tb}
theorem pip_of {X : Cx} {o : Operator} {t t' : TIp} (h : PIp X o t) (i : ∀ x y H Q, t' x y H Q → t x y H Q) : PIp X o t' := fun pins s σ H x y v u Q I rx ry q => h pins s σ H x y v u Q I rx ry (i _ _ _ _ q)
theorem ip_D {X : Cx} : PIp X .Sub (rD X.K fun _ => opD .Sub) := by
  refine pip_of ip_sub fun x y H Q h => ?_
  obtain ⟨Hd, ρ, cs, a, b, z, S, ra, rb, e, p⟩ := h
  cases a <;> cases b <;> simp only [opD] at e <;> try cases e
  rw [dn_int.mp ra, dn_int.mp rb]
  exact ⟨_, _, rfl, rfl, p.here S (dn_int.mpr rfl)⟩
theorem PIp.or {X : Cx} {o : Operator} {t t' : TIp} (h : PIp X o t) (h' : PIp X o t') : PIp X o (fun x y H Q => t x y H Q ∨ t' x y H Q) := fun pins s σ H x y v u Q I rx ry q => by
  rcases q with q | q
  · exact h pins s σ H x y v u Q I rx ry q
  · exact h' pins s σ H x y v u Q I rx ry q
theorem ip_addD {X : Cx} : PIp X .Add (rD X.K fun _ => augD) := by
  refine pip_of (PIp.or (t' := fun x y H Q => ∃ i j, x = .str i ∧ y = .str j ∧ i.length + j.length ≤ sizeLine ∧ Q (.str (i ++ j)) H) ip_add (fun pins s σ H x y v u Q I rx ry q => iop_add_str pins s σ H x y v u Q I rx ry q)) fun x y H Q h => ?_
  obtain ⟨Hd, ρ, cs, a, b, z, S, ra, rb, e, p⟩ := h
  cases a <;> cases b <;> simp only [augD] at e <;> try (cases e; done)
  · cases e
    rw [dn_int.mp ra, dn_int.mp rb]
    exact .inl ⟨_, _, rfl, rfl, p.here S (dn_int.mpr rfl)⟩
  · split at e
    · rename_i hc; cases e
      rw [dn_str.mp ra, dn_str.mp rb]
      exact .inr ⟨_, _, rfl, rfl, cap_le hc, p.here S (dn_str.mpr rfl)⟩
    · cases e
end
end Mc
set_option Elab.async false
set_option linter.all false
set_option maxRecDepth 100000
set_option maxHeartbeats 8000000
namespace Mc
open PySem PySem.Spec PyProof.Rows L2
section
variable {φ : Phi} {k : Nat} {tb : Tb}
theorem newImp {K : PySem.W.Frag} {m : Bool} {l : L} {σ : L2.St} {H : Hp} {Q : VK} (q : tE K φ (.new m l) σ H Q) : tL K φ l σ H Q := by
  obtain ⟨Hd, ρ, env, cs, d, cs', S, ek, e, q⟩ := q
  simp only [evE] at e
  split at e
  · rename_i ds cs1 e1
    split at e
    · rename_i hm; cases e
      refine ⟨Hd, ρ, env, cs, ds, cs1, S, ek, e1, fun Hd' ρ' H' p vs s S' h1 h2 h3 h4 r => ?_⟩
      have x1 : Ext Hd' ρ' Hd' (ρ' ++ [p]) := ⟨Same.refl _, [p], rfl⟩
      refine q _ _ _ _ (s.push h1) (S'.push h2 h3 ⟨vs, h4, DnL.mono x1 _ _ r⟩) (dn_ref.mpr ⟨p, rfl, ?_⟩)
      rw [← S'.len, List.getElem?_append_right (Nat.le_refl _)]
      simp
    · cases e
      refine ⟨Hd, ρ, env, cs, ds, cs', S, ek, e1, fun Hd' ρ' H' p vs s S' h1 h2 h3 h4 r => ?_⟩
      exact q _ _ _ _ (s.freeze h1 h2) (S'.freeze h2 h3 h4) (dn_lst.mpr ⟨p, vs, rfl, upd_same, DnL.mono (ext_upd h2) _ _ r⟩)
  · cases e
theorem compImp {K : PySem.W.Frag} {own : List (Str × Nat)} {t : Tgt} {it : I} {c : Eo} {elt : E} {σ : L2.St} {H : Hp} {Q : VK} (q : tL K φ (.comp own t it c elt) σ H Q) : tLc (tI K φ it) (tG K φ t) (tC' K φ c) (tE K φ elt) (own.map (·.2)) σ H Q := by
  obtain ⟨Hd, ρ, env, cs, ds, cs', S, ek, e, q⟩ := q
  simp only [evL] at e
  split at e
  · rename_i its cs1 e1
    refine ⟨Hd, ρ, env, cs, its, cs1, S, ek, e1, fun J Hd1 ρ1 H1 s1 S1 wk => fun D hD => ?_⟩
    refine compRun q s1 S1 ek wk hD (s1.new S S1 hD) e fun d cs2 r er => ?_
    split at er
    · rename_i env1 cs3 e2
      split at er
      · rename_i hin
        refine ⟨hin, env1, cs3, ?_⟩
        split at er
        · rename_i cs4 e3
          split at er
          · rename_i y cs5 e4; cases er
            exact ⟨true, cs4, e2, e3, .inl ⟨rfl, y, cs5, e4, rfl⟩⟩
          · cases er
        · rename_i cs4 e3; cases er
          exact ⟨false, cs4, e2, e3, .inr ⟨rfl, rfl⟩⟩
        · cases er
      · cases er
    · cases er
  · cases e
theorem forRun {K : PySem.W.Frag} {t : Tgt} {b : Ss} {w n : Nat} {σ : L2.St} {Hd H Hd1 H1 : Hp} {ρ ρ1 : List Addr} {env : Sl} {cs1 : Cells} {src : Src} {J : It} {r : R} {D : Ends} {f : Mc.D → Sl → Cells → Option R}
    (q : PostR K Hd ρ H r D) (s1 : Step Hd ρ H Hd1 ρ1 H1) (S1 : Sim K Hd1 ρ1 cs1 H1) (ek : EK K σ Hd ρ env) (wk : Walks K J Hd1 ρ1 src) (e : forGo src f n 0 env cs1 = some r)
    (hf : ∀ d env1 cs2 r, f d env1 cs2 = some r → ∃ env2 cs3, evG φ t d env1 cs2 = some (env2, cs3) ∧ evSs φ w b env2 cs3 = some r) :
    ∃ W : Nat → Nat → L2.St → Hp → Prop, (∃ m, W 0 m σ H1) ∧ ∀ i m σ H, W i m σ H →
      (J.stop i H ∧ D.nx σ H) ∨ (J.go i H ∧ ∃ N : L2.St → Hp → Prop, (∀ σ' H', N σ' H' → ∃ m', m' < m ∧ W (i + 1) m' σ' H') ∧ ∀ x H', J.yld i H x H' → tG K φ t x σ H' fun σ2 H2 => tSs K φ w b { D with nx := N, ct := N, bk := D.nx } σ2 H2) := by
  refine ⟨fun i m σ' H' => ∃ Hd' ρ' env' cs2, Step Hd ρ H Hd' ρ' H' ∧ Ext Hd1 ρ1 Hd' ρ' ∧ Sim K Hd' ρ' cs2 H' ∧ EK K σ' Hd' ρ' env' ∧ forGo src f m i env' cs2 = some r,
    ⟨n, Hd1, ρ1, env, cs1, s1, Ext.refl _ _, S1, ek.step s1, e⟩, ?_⟩
  rintro i m σ' H' ⟨Hd', ρ', env', cs2, st, xt, S', ek', ego⟩
  obtain ⟨w1, w2⟩ := wk Hd' ρ' H' cs2 xt S' i
  cases m with
  | zero => simp [forGo] at ego
  | succ m =>
    simp only [forGo] at ego
    split at ego
    · rename_i d ha
      obtain ⟨go, yl⟩ := w2 _ ha
      refine .inr ⟨go, fun σn Hn => ∃ Hd' ρ' env' cs2, Step Hd ρ H Hd' ρ' Hn ∧ Ext Hd1 ρ1 Hd' ρ' ∧ Sim K Hd' ρ' cs2 Hn ∧ EK K σn Hd' ρ' env' ∧ forGo src f m (i + 1) env' cs2 = some r, fun _ _ z => ⟨m, by omega, z⟩, fun x H2 hy => ?_⟩
      obtain ⟨Hd2, ρ2, s2, S2, r2⟩ := yl x H2 hy
      cases er : f d env' cs2 with
      | none => rw [er] at ego; simp at ego
      | some r1 =>
        obtain ⟨env2, cs3, eG, eB⟩ := hf _ _ _ _ er
        rw [er] at ego
        refine ⟨Hd2, ρ2, env', cs2, d, env2, cs3, S2, ek'.step s2, r2, eG, fun Hd3 ρ3 H3 σ3 s3 S3 ek3 _ => ⟨Hd3, ρ3, env2, cs3, r1, S3, ek3, eB, ?_⟩⟩
        have s23 := s2.trans s3
        cases r1 with
        | nx envn csn =>
          simp only at ego
          exact fun Hd4 ρ4 H4 σ4 s4 S4 ek4 => ⟨Hd4, ρ4, envn, csn, st.trans (s23.trans s4), xt.trans (s23.trans s4).ext, S4, ek4, ego⟩
        | ct envn csn =>
          simp only at ego
          exact fun Hd4 ρ4 H4 σ4 s4 S4 ek4 => ⟨Hd4, ρ4, envn, csn, st.trans (s23.trans s4), xt.trans (s23.trans s4).ext, S4, ek4, ego⟩
        | bk envn csn =>
          simp only at ego; cases ego
          exact fun Hd4 ρ4 H4 σ4 s4 S4 ek4 => q _ _ _ _ (st.trans (s23.trans s4)) S4 ek4
        | rt d csn =>
          simp only at ego; cases ego
          exact fun Hd4 ρ4 H4 v s4 S4 r4 => q _ _ _ _ (st.trans (s23.trans s4)) S4 r4
    · rename_i ha
      cases ego
      exact .inl ⟨w1 ha, q _ _ _ _ st S' ek'⟩
    · cases ego
theorem whlRun {K : PySem.W.Frag} {c : E} {b : Ss} {w n : Nat} {σ : L2.St} {Hd H : Hp} {ρ : List Addr} {env : Sl} {cs : Cells} {r : R} {D : Ends} 
    (q : PostR K Hd ρ H r D) (S : Sim K Hd ρ cs H) (ek : EK K σ Hd ρ env) (e : whlGo (fun env1 cs1 => evT φ c env1 cs1) (fun env1 cs1 => evSs φ w b env1 cs1) n env cs = some r) : tWhile (tT K φ c) (tSs K φ w b) D σ H := by
  refine ⟨fun m σ' H' => ∃ Hd' ρ' env' cs2, Step Hd ρ H Hd' ρ' H' ∧ Sim K Hd' ρ' cs2 H' ∧ EK K σ' Hd' ρ' env' ∧ whlGo (fun env1 cs1 => evT φ c env1 cs1) (fun env1 cs1 => evSs φ w b env1 cs1) m env' cs2 = some r, ⟨n, Hd, ρ, env, cs, Step.refl _ _ _, S, ek, e⟩, ?_⟩
  rintro m σ' H' ⟨Hd', ρ', env', cs2, st, S', ek', ego⟩
  cases m with
  | zero => simp [whlGo] at ego
  | succ m =>
    simp only [whlGo] at ego
    split at ego
    · rename_i cs3 e1
      refine ⟨Hd', ρ', env', cs2, true, cs3, S', ek', e1, fun Hd2 ρ2 H2 s2 S2 => iteT ?_⟩
      refine ⟨fun σn Hn => ∃ Hd' ρ' env' cs2, Step Hd ρ H Hd' ρ' Hn ∧ Sim K Hd' ρ' cs2 Hn ∧ EK K σn Hd' ρ' env' ∧ whlGo (fun env1 cs1 => evT φ c env1 cs1) (fun env1 cs1 => evSs φ w b env1 cs1) m env' cs2 = some r, fun _ _ z => ⟨m, by omega, z⟩, ?_⟩
      cases eb : evSs φ w b env' cs3 with
      | none => rw [eb] at ego; simp at ego
      | some r1 =>
        rw [eb] at ego
        refine ⟨Hd2, ρ2, env', cs3, r1, S2, ek'.step s2, eb, ?_⟩
        cases r1 with
        | nx envn csn =>
          simp only at ego
          exact fun Hd4 ρ4 H4 σ4 s4 S4 ek4 => ⟨Hd4, ρ4, envn, csn, st.trans (s2.trans s4), S4, ek4, ego⟩
        | ct envn csn =>
          simp only at ego
          exact fun Hd4 ρ4 H4 σ4 s4 S4 ek4 => ⟨Hd4, ρ4, envn, csn, st.trans (s2.trans s4), S4, ek4, ego⟩
        | bk envn csn =>
          simp only at ego; cases ego
          exact fun Hd4 ρ4 H4 σ4 s4 S4 ek4 => q _ _ _ _ (st.trans (s2.trans s4)) S4 ek4
        | rt d csn =>
          simp only at ego; cases ego
          exact fun Hd4 ρ4 H4 v s4 S4 r4 => q _ _ _ _ (st.trans (s2.trans s4)) S4 r4
    · rename_i cs3 e1; cases ego
      exact ⟨Hd', ρ', env', cs2, false, cs3, S', ek', e1, fun Hd2 ρ2 H2 s2 S2 => iteF (q _ _ _ _ (st.trans s2) S2 (ek'.step s2))⟩
    · cases ego
theorem asg_ok {sc : Scope} {X : Cx} {tg v : Expr} {l : Nat} (C : Sok k sc X) (h : (match tg, v with
      | .Tuple ts _ _, .Tuple vs _ _ => decide (swapOf (fun x => sc.names.lookup x) true ts vs = some none)
      | .Name x p, .ListComp _ _ scope q => !(decide (sc.names.lookup x = some .local) && (p.line == q.line) && !(scope.names.any fun (n, k) => n == x && (k == .local || k == .cell)))
      | tg, v => (notTup tg && notList tg || notTup v) && notComp v) = true) : swapsWithSole [tg] v l X.env = pure false ∧ swappedStores [tg] v X.env = pure none := by
  have kd : X.env.kindOf = fun x => sc.names.lookup x := funext C.kind
  have gen : ((notTup tg && notList tg || notTup v) && notComp v) = true → swapsWithSole [tg] v l X.env = pure false ∧ swappedStores [tg] v X.env = pure none := fun h => by
    rw [Bool.and_eq_true] at h
    exact ⟨swap_ok h.2, swapped_none h.1⟩
  have tup : ∀ {ts vs : List Expr} {k1 k2 : Nat} {p1 p2 : Pos}, swapOf (fun x => sc.names.lookup x) true ts vs = some none → swapsWithSole [.Tuple ts k1 p1] (.Tuple vs k2 p2) l X.env = pure false ∧ swappedStores [.Tuple ts k1 p1] (.Tuple vs k2 p2) X.env = pure none := fun {ts vs k1 k2 p1 p2} h =>
    ⟨rfl, swapOf_ok (by rw [kd, C.bk]; exact h)⟩
  have lc : ∀ {x : Str} {p q : Pos} {el : Expr} {gs : List Comprehension} {scope : Scope}, (!(decide (sc.names.lookup x = some .local) && (p.line == q.line) && !(scope.names.any fun (n, k) => n == x && (k == .local || k == .cell)))) = true →
      swapsWithSole [.Name x p] (.ListComp el gs scope q) l X.env = pure false ∧ swappedStores [.Name x p] (.ListComp el gs scope q) X.env = pure none := fun {x p q el gs scope} h => by
    refine ⟨?_, rfl⟩
    show swapsWith (.ListComp el gs scope q) (some (.Name x p)) l X.env = pure false
    rw [sw_name, C.bk, C.kind x]
    rw [Bool.not_eq_true'] at h
    have e : (sc.names.lookup x == some NameKind.local) = decide (sc.names.lookup x = some .local) := by
      by_cases z : sc.names.lookup x = some .local
      · rw [z]; rfl
      · rw [decide_eq_false z]; exact beq_eq_false_iff_ne.mpr z
    rw [e, Bool.true_and, h]
  cases tg <;> cases v <;> first
    | exact gen h
    | exact tup (of_decide_eq_true h)
    | exact lc h
theorem fsetGo {X : Cx} {w : Nat} {o ce : E} {c : Addr} {nm : Str} {x v : Expr} {p pos : Pos} (F : FxX φ k tb X) (h2 : tb.flds.contains (c, nm) = true) (h3 : notComp v = true) (ho : PE X x (tE X.K φ o)) (hv : PE X v (tE X.K φ ce)) :
    PS X (.Assign [.Attribute x nm p] v pos) (tS X.K φ w (.fset c o nm ce)) := by
  obtain ⟨g1, g2⟩ := F.flds c nm (List.contains_iff_mem.mp h2)
  refine PS.imp (ps_fld ho hv (swap_ok h3)) fun D σ H q => ?_
  obtain ⟨Hd, ρ, env, cs, r, S, ek, e, q⟩ := q
  simp only [evS] at e
  split at e
  · rename_i d cs1 e1
    split at e
    · rename_i n cs2 e2
      split at e
      · rename_i c' ns vs hx
        split at e
        · rename_i hc; cases e
          obtain ⟨hc, hl⟩ := hc
          subst hc
          refine tE.run S ek e1 fun _ _ _ y s1 S1 r1 => tE.run S1 (ek.step s1) e2 fun _ ρ2 _ u s2 S2 r2 => ?_
          obtain ⟨a, rfl, ha⟩ := dn_ref.mp r2
          obtain ⟨k0, dx, us, k1, k2, k3⟩ := S2.cell n a _ ha hx
          have rv := Dn.mono s2.ext _ _ r1
          obtain ⟨us', k4, k5, k6⟩ := putD_ok (f := nm) rv k2 k3
          refine ⟨a, c', dx, _, rfl, k1, g1, g2, ?_, ?_⟩
          · rw [List.length_zip]
            exact Nat.lt_of_le_of_lt (Nat.min_le_left _ _) (by omega)
          · rw [k4]
            have st := s1.trans s2
            exact q _ _ _ _ (st.trans (step_store ha)) (S2.store ha ⟨dx, us', upd_same, k5, k6⟩) (ek.step st)
        · cases e
      · cases e
    · cases e
  · cases e
mutual
theorem sS {w : Nat} : ∀ (s : S) (sc : Scope) (st : Stmt) (X : Cx), FxX φ k tb X → Sok k sc X → chkS tb X.N sc s st = true → PS X st (tS X.K φ w s)
  | .ex e, sc, st, X, F, C, h => by
    cases st <;> simp only [chkS] at h <;> try (cases h; done)
    rename_i v pos
    simp only [Bool.and_eq_true] at h
    refine PS.imp (ps_expr (sE e sc v X F C.toCok h.2) (swap_ok h.1)) fun D σ H q => ?_
    obtain ⟨Hd, ρ, env, cs, r, S, ek, e, q⟩ := q
    simp only [evS] at e
    split at e
    · rename_i d cs1 e1; cases e
      exact tE.run S ek e1 fun _ _ _ v s1 S1 r1 => q _ _ _ _ s1 S1 (ek.step s1)
    · cases e
  | .asg t e, sc, st, X, F, C, h => by
    cases st <;> simp only [chkS] at h <;> try (cases h; done)
    rename_i tgs v pos
    match tgs, h with
    | [tg], h =>
      simp only [Bool.and_eq_true] at h
      obtain ⟨⟨⟨h1, h2⟩, h3⟩, h4⟩ := h
      have sw : swapsWithSole [tg] v pos.line X.env = pure false ∧ swappedStores [tg] v X.env = pure none := asg_ok C h4
      refine PS.imp (ps_asg (sE e sc v X F C.toCok h3) (sG t sc tg X F C.toCok h2) sw.1 sw.2 (by rw [each_cons [] h1]; rfl)) fun D σ H q => ?_
      obtain ⟨Hd, ρ, env, cs, r, S, ek, e, q⟩ := q
      simp only [evS] at e
      split at e
      · rename_i d cs1 e1
        split at e
        · rename_i env1 cs2 e2; cases e
          exact tE.run S ek e1 fun _ _ _ v s1 S1 r1 => ⟨_, _, env, cs1, d, env1, cs2, S1, ek.step s1, r1, e2, fun _ _ _ σ' s2 S2 ek2 _ => q _ _ _ _ (s1.trans s2) S2 ek2⟩
        · cases e
      · cases e
    | [], h => exact absurd h (by simp)
    | _ :: _ :: _, h => exact absurd h (by simp)
  | .asgC i m l, sc, st, X, F, C, h => by
    cases st <;> simp only [chkS] at h <;> try (cases h; done)
    rename_i tgs v pos
    match tgs, v, h with
    | [.Name x p], .ListComp el gs scope q, h =>
      simp only [Bool.and_eq_true, decide_eq_true_eq, Bool.not_eq_true'] at h
      obtain ⟨⟨⟨⟨h1, h2⟩, h3⟩, h4⟩, h5⟩ := h
      cases l with
      | comp own t it c elt =>
        simp only [chkL] at h5
        match gs, h5 with
        | [⟨tg, iter, ifs, 0⟩], h5 =>
          simp only [Bool.and_eq_true] at h5
          obtain ⟨⟨⟨⟨⟨g1, g2⟩, g3⟩, g4⟩, g5⟩, g6⟩ := h5
          have B0 := blkOk_by g1
          have B : BlkOk X.N X.env.scope scope own := ⟨B0.kind, B0.uniq, B0.ix, fun y hy hf => C.cf _ (B0.free y hy hf), B0.own⟩
          have hy : X.env.scope.names.lookup x = some .local := by rw [C.scq]; exact h2
          have C' := C.toCok
          refine PS.imp (ps_setLc (wi := tI X.K φ it) (g := tG X.K φ t) (tt := tC' X.K φ c) (te := tE X.K φ elt) C.calm C.nd h1 hy (by
              rw [sw_name, h3, h4, C.bk, C.kind x, h2]; rfl) (sI it sc tg iter X F C' g3) B (fun s H Ca cl fp => sG t scope tg (X.blk s H scope (compEnvC scope cl Ca X.env) fp) F (C'.blk scope s H Ca cl fp) g4)
            (fun s H Ca cl fp => sC c scope ifs (X.blk s H scope (compEnvC scope cl Ca X.env) fp) F (C'.blk scope s H Ca cl fp) g6) (fun s H Ca cl fp => sE elt scope el (X.blk s H scope (compEnvC scope cl Ca X.env) fp) F (C'.blk scope s H Ca cl fp) g5) (fold_ok g2)) fun D σ H q => ?_
          obtain ⟨Hd, ρ, env, cs, r, S, ek, e, q⟩ := q
          simp only [evS] at e
          split at e
          · rename_i d cs1 e1; cases e
            exact compImp (newImp (m := m) ⟨Hd, ρ, env, cs, d, cs1, S, ek, e1, fun _ _ _ v s1 S1 r1 => q _ _ _ _ s1 S1 ((ek.step s1).put r1)⟩)
          · cases e
      | _ => simp [chkL] at h5
  | .par is es, sc, st, X, F, C, h => by
    have kd : X.env.kindOf = fun x => sc.names.lookup x := funext C.kind
    have lk : ∀ {x : Str}, sc.names.lookup x = some .local → X.env.scope.names.lookup x = some .local := fun {x} z => by rw [C.scq]; exact z
    cases st <;> simp only [chkS] at h <;> try (cases h; done)
    rename_i tgs v pos
    match tgs, v, h with
    | [.Tuple [.Name x px, .Name y py] k1 p1], .Tuple [a, b] k2 p2, h =>
      simp only [Bool.and_eq_true, decide_eq_true_eq] at h
      obtain ⟨⟨⟨⟨h1, h2⟩, h3⟩, h4⟩, h5⟩ := h
      match is, h2 with
      | [i, j], h2 =>
        simp only [Bool.and_eq_true, decide_eq_true_eq] at h2
        refine PS.imp (ps_par C.calm C.nd h2.1.1 h2.1.2 h2.2 (lk h3) (lk h4) (sEs es sc [a, b] X F C.toCok h5) (swapOf_ok (by rw [kd, C.bk]; exact h1)) rfl) fun D σ H q => ?_
        obtain ⟨Hd, ρ, env, cs, r, S, ek, e, q⟩ := q
        simp only [evS] at e
        split at e
        · rename_i ds cs1 e1
          split at e
          · rename_i hl; cases e
            match ds, hl with
            | [d1, d2], _ =>
              refine ⟨Hd, ρ, env, cs, _, cs1, S, ek, e1, fun Hd' ρ' H' vs s S' r => ?_⟩
              obtain ⟨v1, v2, rfl, r1, r2⟩ := dnl2 r
              exact ⟨v1, v2, rfl, q _ _ _ _ s S' (((ek.step s).put r1).put r2)⟩
          · cases e
        · cases e
    | [.Tuple [.Name x px, .Name y py, .Name z pz] k1 p1], .Tuple [a, b, c] k2 p2, h =>
      simp only [Bool.and_eq_true, decide_eq_true_eq] at h
      obtain ⟨⟨⟨⟨⟨h1, h2⟩, h3⟩, h4⟩, h6⟩, h5⟩ := h
      match is, h2 with
      | [i, j, l], h2 =>
        simp only [Bool.and_eq_true, decide_eq_true_eq] at h2
        obtain ⟨⟨⟨⟨⟨g1, g2⟩, g3⟩, g4⟩, g5⟩, g6⟩ := h2
        refine PS.imp (ps_par3 C.calm C.nd g1 g2 g3 g4 g5 g6 (lk h3) (lk h4) (lk h6) (sEs es sc [a, b, c] X F C.toCok h5) (swapOf_ok (by rw [kd, C.bk]; exact h1)) rfl) fun D σ H q => ?_
        obtain ⟨Hd, ρ, env, cs, r, S, ek, e, q⟩ := q
        simp only [evS] at e
        split at e
        · rename_i ds cs1 e1
          split at e
          · rename_i hl; cases e
            match ds, hl with
            | [d1, d2, d3], _ =>
              refine ⟨Hd, ρ, env, cs, _, cs1, S, ek, e1, fun Hd' ρ' H' vs s S' r => ?_⟩
              obtain ⟨v1, rs, rfl, r1, r'⟩ := r.of_cons
              obtain ⟨v2, v3, rfl, r2, r3⟩ := dnl2 r'
              exact ⟨v1, v2, v3, rfl, q _ _ _ _ s S' ((((ek.step s).put r1).put r2).put r3)⟩
          · cases e
        · cases e
  | .aug i o e, sc, st, X, F, C, h => by
    cases st <;> simp only [chkS] at h <;> try (cases h; done)
    rename_i tg p v pos
    cases tg <;> (try simp only at h) <;> try (cases h; done)
    rename_i x px
    simp only [Bool.and_eq_true, Bool.or_eq_true, decide_eq_true_eq] at h
    obtain ⟨⟨⟨⟨rfl, h2⟩, h3⟩, h4⟩, h5⟩ := h
    obtain ⟨l1, l2⟩ := C.loc x h4
    have ip : PIp X p (rD X.K fun _ a b => if p = .Add then augD a b else opD p a b) := by
      rcases h2 with rfl | rfl
      · exact pip_of ip_addD fun x y H Q q => by simpa using q
      · exact pip_of ip_D fun x y H Q q => by simpa using q
    refine PS.imp (ps_aug C.nd h3 l1 (sE e sc v X F C.toCok h5) ip l2) fun D σ H q => ?_
    obtain ⟨Hd, ρ, env, cs, r, S, ek, e, q⟩ := q
    simp only [evS] at e
    split at e
    · rename_i x hx
      split at e
      · rename_i y cs1 e1
        split at e
        · rename_i z e2; cases e
          obtain ⟨vx, hv, rx⟩ := ek.2 _ _ hx
          exact ⟨vx, hv, tE.run S ek e1 fun _ _ _ v s1 S1 r1 => ⟨_, _, cs1, x, y, z, S1, Dn.mono s1.ext _ _ rx, r1, e2, fun _ _ _ u s2 S2 r2 => q _ _ _ _ (s1.trans s2) S2 ((ek.step (s1.trans s2)).put r2)⟩⟩
        · cases e
      · cases e
    · cases e
  | .ifs c a b, sc, st, X, F, C, h => by
    cases st <;> simp only [chkS] at h <;> try (cases h; done)
    rename_i t x y pos
    simp only [Bool.and_eq_true] at h
    refine PS.imp (ps_if (sT c sc t X F C.toCok h.1.1) (sSs (w := w) a sc x X F C h.1.2) (sSs (w := w) b sc y X F C h.2)) fun D σ H q => ?_
    obtain ⟨Hd, ρ, env, cs, r, S, ek, e, q⟩ := q
    simp only [evS] at e
    split at e
    · rename_i cs1 e1
      exact ⟨Hd, ρ, env, cs, true, cs1, S, ek, e1, fun _ _ _ s1 S1 => iteT ⟨_, _, env, cs1, r, S1, ek.step s1, e, q.step s1⟩⟩
    · rename_i cs1 e1
      exact ⟨Hd, ρ, env, cs, false, cs1, S, ek, e1, fun _ _ _ s1 S1 => iteF ⟨_, _, env, cs1, r, S1, ek.step s1, e, q.step s1⟩⟩
    · cases e
  | .for t it b, sc, st, X, F, C, h => by
    cases st <;> simp only [chkS] at h <;> try (cases h; done)
    rename_i tg iter body els pos
    cases els with
    | cons _ _ => exact absurd h (by simp)
    | nil =>
      simp only [Bool.and_eq_true] at h
      obtain ⟨⟨⟨h1, h2⟩, h3⟩, h4⟩ := h
      refine PS.imp (ps_for C.po C.calm (sI it sc tg iter X F C.toCok h2) (sG t sc tg X F C.toCok h3) (sSs (w := w) b sc body X F C h4) (fold_ok h1)) fun D σ H q => ?_
      obtain ⟨Hd, ρ, env, cs, r, S, ek, e, q⟩ := q
      simp only [evS] at e
      split at e
      · rename_i its cs1 e1
        refine ⟨Hd, ρ, env, cs, its, cs1, S, ek, e1, fun J Hd1 ρ1 H1 s1 S1 wk => ?_⟩
        refine forRun q s1 S1 ek wk e fun d env1 cs2 r er => ?_
        split at er
        · rename_i env2 cs3 e2; exact ⟨env2, cs3, e2, er⟩
        · cases er
      · cases e
  | .whl c b, sc, st, X, F, C, h => by
    cases st <;> simp only [chkS] at h <;> try (cases h; done)
    rename_i t body els pos
    cases els with
    | cons _ _ => exact absurd h (by simp)
    | nil =>
      simp only [Bool.and_eq_true] at h
      refine PS.imp (ps_while C.po (sT c sc t X F C.toCok h.1) (sSs (w := w) b sc body X F C h.2)) fun D σ H q => ?_
      obtain ⟨Hd, ρ, env, cs, r, S, ek, e, q⟩ := q
      simp only [evS] at e
      exact whlRun q S ek e
  | .ret e, sc, st, X, F, C, h => by
    cases st <;> simp only [chkS] at h <;> try (cases h; done)
    rename_i v pos
    cases v with
    | none => exact absurd h (by simp)
    | some v =>
      refine PS.imp (ps_ret (sE e sc v X F C.toCok h)) fun D σ H q => ?_
      obtain ⟨Hd, ρ, env, cs, r, S, ek, e, q⟩ := q
      simp only [evS] at e
      split at e
      · rename_i d cs1 e1; cases e
        exact tE.run S ek e1 q
      · cases e
  | .retN, sc, st, X, F, C, h => by
    cases st <;> simp only [chkS] at h <;> try (cases h; done)
    rename_i v pos
    cases v with
    | some v => exact absurd h (by simp)
    | none =>
      refine PS.imp ps_retN fun D σ H q => ?_
      obtain ⟨Hd, ρ, env, cs, r, S, ek, e, q⟩ := q
      simp only [evS] at e; cases e
      exact Post.here q S (dn_non.mpr rfl)
  | .pass, sc, st, X, F, C, h => by
    cases st <;> simp only [chkS] at h <;> try (cases h; done)
    refine PS.imp ps_pass fun D σ H q => ?_
    obtain ⟨Hd, ρ, env, cs, r, S, ek, e, q⟩ := q
    simp only [evS] at e; cases e
    exact q _ _ _ _ (Step.refl _ _ _) S ek
  | .brk, sc, st, X, F, C, h => by
    cases st <;> simp only [chkS] at h <;> try (cases h; done)
    refine PS.imp ps_break fun D σ H q => ?_
    obtain ⟨Hd, ρ, env, cs, r, S, ek, e, q⟩ := q
    simp only [evS] at e; cases e
    exact q _ _ _ _ (Step.refl _ _ _) S ek
  | .cont, sc, st, X, F, C, h => by
    cases st <;> simp only [chkS] at h <;> try (cases h; done)
    refine PS.imp ps_continue fun D σ H q => ?_
    obtain ⟨Hd, ρ, env, cs, r, S, ek, e, q⟩ := q
    simp only [evS] at e; cases e
    exact q _ _ _ _ (Step.refl _ _ _) S ek
  | .never, sc, st, X, F, C, h => by
    refine PS.imp ps_never fun D σ H q => ?_
    obtain ⟨Hd, ρ, env, cs, r, S, ek, e, q⟩ := q
    simp [evS] at e
  | .fset c o f e, sc, st, X, F, C, h => by
    cases st <;> simp only [chkS] at h <;> try (cases h; done)
    rename_i tgs v pos
    match tgs, h with
    | [.Attribute x nm p], h =>
      simp only [Bool.and_eq_true] at h
      obtain ⟨⟨⟨⟨h1, h2⟩, h3⟩, h4⟩, h5⟩ := h
      have e1 := eq_of_beq h1
      subst e1
      exact fsetGo F h2 h3 (sE o sc x X F C.toCok h4) (sE e sc v X F C.toCok h5)
theorem sSs {w : Nat} : ∀ (s : Ss) (sc : Scope) (st : List Stmt) (X : Cx), FxX φ k tb X → Sok k sc X → chkSs tb X.N sc s st = true → PSs X st (tSs X.K φ w s)
  | .nil, sc, st, X, F, C, h => by
    match st, h with
    | [], h =>
      refine PSs.imp pss_nil fun D σ H q => ?_
      obtain ⟨Hd, ρ, env, cs, r, S, ek, e, q⟩ := q
      simp only [evSs] at e; cases e
      exact q _ _ _ _ (Step.refl _ _ _) S ek
    | _ :: _, h => simp [chkSs] at h
  | .cons s r, sc, st, X, F, C, h => by
    match st, h with
    | x :: xs, h =>
      simp only [chkSs, Bool.and_eq_true] at h
      refine PSs.imp (pss_cons (sS (w := w) s sc x X F C h.1) (sSs (w := w) r sc xs X F C h.2)) fun D σ H q => ?_
      obtain ⟨Hd, ρ, env, cs, r', S, ek, e, q⟩ := q
      simp only [evSs] at e
      cases e1 : evS φ w s env cs with
      | none => rw [e1] at e; simp at e
      | some r1 =>
        rw [e1] at e
        refine ⟨Hd, ρ, env, cs, r1, S, ek, e1, ?_⟩
        cases r1 with
        | nx env1 cs1 =>
          simp only at e
          exact fun _ _ _ σ' s1 S1 ek1 => ⟨_, _, env1, cs1, r', S1, ek1, e, q.step s1⟩
        | bk env1 cs1 => simp only at e; cases e; exact q
        | ct env1 cs1 => simp only at e; cases e; exact q
        | rt d cs1 => simp only at e; cases e; exact q
    | [], h => simp [chkSs] at h
end
end
end Mc
set_option Elab.async false
set_option linter.all false
set_option maxRecDepth 100000
set_option maxHeartbeats 4000000
namespace Mc
open PySem PySem.Spec PyProof.Rows L2

structure Fd where
  np : Nat
  nN : Nat
  keep : Bool
  body : Ss
/-- a call, so deep at the most -/
def callN (w : Nat) (tab : List Fd) : Nat → Phi
  | 0 => fun _ _ _ => none
  | n + 1 => fun f ds cs => match tab[f]? with
    | none => none
    | some d => if ds.length = d.np then (match evSs (callN w tab n) w d.body (ds.map some ++ List.replicate (d.nN - d.np) none) cs with
      | some (.rt v cs') => fin d.keep cs.length v cs'
      | some (.nx _ cs') => fin d.keep cs.length .non cs'
      | _ => none) else none


/-! ### all defs of a text keep what the machine does -/
/-- a def of the text: its names, its qualified name, its statement, its slots -/
structure Td where
  name : Str
  qual : Str
  addr : Addr
  top : Bool
  st : Stmt
  ps : List Str
  N : List Str
  fd : Fd
def Td.fi (t : Td) : Fi := ⟨t.name, t.ps, t.addr, t.top⟩
/-- what the text itself shows -/
def Td.ok (tb : Tb) (t : Td) : Bool := decide (t.ps.length = t.fd.np) && decide (t.N.length = t.fd.nN) && !(t.name == "__debug__") && chkSs tb t.N (defScope t.st) t.fd.body (defBody t.st)
/-- all that a law reaches: its defs, its constants, its classes -/
structure Tx where
  ts : List Td
  gls : List (Str × D) := []
  flds : List (Addr × Str) := []
  prps : List (Addr × Str × Nat) := []
  mths : List (Addr × Str × Nat) := []
  mks : List (Str × Addr × Nat) := []
  kbs : List Kf := []
  gds : List (Str × List Str × List D) := []
def Tx.tb (t : Tx) : Tb := ⟨t.ts.map Td.fi, t.gls, t.flds, t.prps, t.mths, t.mks, t.kbs, t.gds⟩
structure Ts (w : World) (K : PySem.W.Frag) (mg : Str → Option Value) (t : Tx) : Prop where
  at_ : ∀ (i : Nat) (d : Td), t.ts[i]? = some d → Td.ok t.tb d = true ∧ FnScope d.N d.ps (defScope d.st) ∧ (∃ fd, FunX K d.name d.qual d.st d.addr fd ∧ Binds K fd d.ps []) ∧ (d.top = true → mg d.name = some (.ref d.addr))
  gls : ∀ x d, (x, d) ∈ t.gls → ∃ u v, mg x = some u ∧ RelV v u ∧ ∀ Hd ρ, Dn K Hd ρ d v
  flds : ∀ c f, (c, f) ∈ t.flds → Cls K c ∧ NoAttr K c f
  prps : ∀ c f i, (c, f, i) ∈ t.prps → Cls K c ∧ ∃ d p, t.ts[i]? = some d ∧ PropOf K c f p d.addr
  mths : ∀ c m i, (c, m, i) ∈ t.mths → Cls K c ∧ ∃ d, t.ts[i]? = some d ∧ Meth K c m d.addr
  mks : ∀ x c i, (x, c, i) ∈ t.mks → ∃ d, t.ts[i]? = some d ∧ Mk K c d.addr ∧ mg x = some (.ref c) ∧ (x == ("__debug__" : Str)) = false
  kbs : ∀ kf, kf ∈ t.kbs → ∃ d fd, t.ts[kf.i]? = some d ∧ FunX K d.name d.qual d.st d.addr fd ∧ Binds K fd d.ps [] ∧ KfOk K fd d.ps kf
  gds : ∀ x ks ds, (x, ks, ds) ∈ t.gds → ∃ a es n, mg x = some (.ref a) ∧ KDict K w a es n ∧ (∀ z d, getF ks ds z = some d → ∃ u v, PySem.W.nsIn K a z = some (some u) ∧ RelV v u ∧ ∀ Hd ρ, Dn K Hd ρ d v) ∧
    ∀ z, ∃ r, PySem.W.nsIn K a z = some r ∧ r.isSome = ks.contains z
  blt : ∀ x ∈ ["len", "abs", "max", "min", "int", "divmod", "tuple", "all", "any", "sum", "repr", "isinstance", "str", "list", "range", "enumerate", "zip", "bool", "dict"], mg (Str.ofString x) = none
theorem all_fns {P : Program} {w : World} {K : PySem.W.Frag} {mg : Str → Option Value} {base : Heap} {t : Tx} {wh : Nat} (T : Ts w K mg t) : ∀ n, Fx P w K mg base (callN wh (t.ts.map Td.fd) n) (2 * n) t.tb := by
  have at_ : ∀ (i : Nat) (f : Fi), t.tb.fis[i]? = some f → ∃ d : Td, t.ts[i]? = some d ∧ f = d.fi := fun i f h => by
    have h' : (t.ts.map Td.fi)[i]? = some f := h
    rw [List.getElem?_map] at h'
    cases ht : t.ts[i]? with
    | none => rw [ht] at h'; cases h'
    | some d => rw [ht] at h'; cases h'; exact ⟨d, rfl, rfl⟩
  have up : ∀ {i : Nat} {d : Td}, t.ts[i]? = some d → t.tb.fis[i]? = some d.fi := fun {i d} h => by
    show (t.ts.map Td.fi)[i]? = some d.fi
    rw [List.getElem?_map, h]; rfl
  have rest : ∀ (φ : Phi) (k : Nat), (∀ i d fd, t.ts[i]? = some d → FunX K d.name d.qual d.st d.addr fd → Binds K fd d.ps [] → FnI P w K mg base φ k i d.fi fd) → (∀ i f ds cs r, t.tb.fis[i]? = some f → φ i ds cs = some r → ds.length = f.ps.length) → Fx P w K mg base φ k t.tb := fun φ k h1 h2 => by
    refine ⟨fun i f h => ⟨?_, fun ht => ?_⟩, T.flds, fun c f i h => ?_, fun c m i h => ?_, fun x c i h => ?_, fun kf h => ?_, h2, T.gls, T.gds, T.blt⟩
    · obtain ⟨d, hd, rfl⟩ := at_ i f h
      obtain ⟨_, _, ⟨fd, q1, q2⟩, _⟩ := T.at_ i d hd
      exact ⟨fd, h1 i d fd hd q1 q2⟩
    · obtain ⟨d, hd, rfl⟩ := at_ i f h
      obtain ⟨q1, _, _, q2⟩ := T.at_ i d hd
      unfold Td.ok at q1
      simp only [Bool.and_eq_true, Bool.not_eq_true'] at q1
      exact ⟨q2 ht, q1.1.2⟩
    · obtain ⟨g1, d, p, g2, g3⟩ := T.prps c f i h
      exact ⟨g1, d.fi, p, up g2, g3⟩
    · obtain ⟨g1, d, g2, g3⟩ := T.mths c m i h
      exact ⟨g1, d.fi, up g2, g3⟩
    · obtain ⟨d, g2, g3, g4, g5⟩ := T.mks x c i h
      exact ⟨d.fi, up g2, g3, g4, g5⟩
    · obtain ⟨d, fd, g2, g3, g4, g5⟩ := T.kbs kf h
      exact ⟨d.fi, fd, up g2, h1 kf.i d fd g2 g3 g4, g5⟩
  intro n
  induction n with
  | zero =>
    refine rest _ _ (fun i d fd hd g2 g3 => ?_) fun i f ds cs r h e => by simp [callN] at e
    exact ⟨g2.kp, g3, ⟨fun vs H Q E q => q.1, fun _ _ _ _ _ q => by
      obtain ⟨_, _, _, _, _, _, _, _, _, e, _⟩ := q
      simp [callN] at e⟩⟩
  | succ n ih =>
    refine rest _ _ (fun i d fd ht g2 g3 => ?_) fun i f ds cs r h e => ?_
    · obtain ⟨h1, sc, _, _⟩ := T.at_ i d ht
      unfold Td.ok at h1
      simp only [Bool.and_eq_true, Bool.not_eq_true', decide_eq_true_eq] at h1
      obtain ⟨⟨⟨e1, e2⟩, e3⟩, e4⟩ := h1
      refine ⟨g2.kp, g3, ?_⟩
      refine FunX.okG (k := 2 * n + 1) g2 sc (fun vs H Q E q => q.1) fun {cdv A outer s H vs Q E} g hr q => ?_
      obtain ⟨hl, Hd, ρ, cs, ds, dd, cs', S, r, e, q⟩ := q
      refine ⟨tSs K (callN wh (t.ts.map Td.fd) n) wh d.fd.body, ?_, ?_⟩
      · refine PSs.nox (sSs (w := wh) d.fd.body (defScope d.st) (defBody d.st) _ ih ⟨⟨sc.nd, fun x z => ?_, fun x z => ?_, fun x z => (of_decide_eq_true (p := (defScope d.st).names.lookup x = some .globalImplicit) z), fun x z => z, rfl, hr, g⟩, rfl, ?_, PassesOwn.never⟩ e4)
        · show Vis (defScope d.st) x
          unfold isVis at z
          unfold Vis
          split at z <;> first | (rename_i hk; rw [hk]; simp; done) | cases z
        · show L2.Loc (defScope d.st) x ∧ _
          unfold isLoc at z
          unfold L2.Loc
          split at z <;> first | (rename_i hk; rw [hk]; exact ⟨by simp, .inl rfl⟩) | cases z
        · show ((if (defScope d.st).kind.isAnnotationScope then ScopeKind.function else (defScope d.st).kind) == .function) = true
          rw [sc.kind]; rfl
      · simp only [callN, List.getElem?_map, ht, Option.map_some] at e
        split at e
        · rename_i hn
          have lr := r.length
          have ek : EK K (L2.start d.N vs) Hd ρ (ds.map some ++ List.replicate (d.fd.nN - d.fd.np) none) := by
            unfold L2.start
            refine ⟨by simp only [List.length_append, List.length_map, List.length_replicate]; omega, fun j x hj => ?_⟩
            by_cases hlt : j < ds.length
            · rw [List.getElem?_append_left (by simpa using hlt), List.getElem?_map] at hj
              cases hd : ds[j]? with
              | none => rw [hd] at hj; cases hj
              | some y =>
                rw [hd] at hj; cases hj
                obtain ⟨v, q1, q2⟩ := r.get hd
                exact ⟨v, by rw [List.getElem?_append_left (by simp; omega), List.getElem?_map, q1]; rfl, q2⟩
            · rw [List.getElem?_append_right (by simpa using hlt)] at hj
              obtain ⟨_, z⟩ := List.getElem?_eq_some_iff.mp hj
              simp at z
          split at e
          · rename_i v cs1 eb
            exact ⟨Hd, ρ, _, cs, _, S, ek, eb, fin_post S e q⟩
          · rename_i env1 cs1 eb
            exact ⟨Hd, ρ, _, cs, _, S, ek, eb, fun Hd' ρ' H' σ' s S' _ => fin_post S e q _ _ _ _ s S' (dn_non.mpr rfl)⟩
          · cases e
        · cases e
    · obtain ⟨d, ht, rfl⟩ := at_ i f h
      obtain ⟨h1, _⟩ := T.at_ i d ht
      unfold Td.ok at h1
      simp only [Bool.and_eq_true, Bool.not_eq_true', decide_eq_true_eq] at h1
      simp only [callN, List.getElem?_map, ht, Option.map_some] at e
      split at e
      · rename_i hn; rw [hn]; exact h1.1.1.1.symm
      · cases e
end Mc
set_option linter.all false
set_option maxRecDepth 100000
set_option maxHeartbeats 4000000
namespace Mc
open PySem PySem.Spec PyProof.Rows L2
def topS (i : Nat) : Stmt := PySem.Challenge.pw_flowyard_k21_whole_flows_of_terms.main.body.getD i (.Pass ⟨0, 0, 0, 0⟩)
def td_is_sign (a : Addr) : Td where
  name := "is_sign"
  qual := "is_sign"
  addr := a
  top := true
  st := topS 1
  ps := ["value"]
  N := ["value"]
  fd := ⟨1, 1, false,
    (.cons (.ret (.and (.cons (.bi .isi (.cons (.var 0) (.cons (.glo "str" (.ty "str")) .nil))) (.cons (.cmp .In (.var 0) (.tup (.cons (.cst (.str "0")) (.cons (.cst (.str "1")) .nil)))) .nil)))) .nil)⟩

def td_is_text (a : Addr) : Td where
  name := "is_text"
  qual := "is_text"
  addr := a
  top := true
  st := topS 2
  ps := ["value"]
  N := ["value"]
  fd := ⟨1, 1, false,
    (.cons (.ret (.and (.cons (.bi .isi (.cons (.var 0) (.cons (.glo "str" (.ty "str")) .nil))) (.cons (.cmp .Eq (.mt .strip (.var 0) (.cons (.cst (.str "01")) .nil)) (.cst (.str ""))) .nil)))) .nil)⟩

def td_is_text_up_to (a : Addr) : Td where
  name := "is_text_up_to"
  qual := "is_text_up_to"
  addr := a
  top := true
  st := topS 3
  ps := ["value", "most"]
  N := ["value", "most"]
  fd := ⟨2, 2, false,
    (.cons (.ret (.and (.cons (.call 1 (.cons (.var 0) .nil)) (.cons (.cmp .LtE (.bi .len (.cons (.var 0) .nil)) (.var 1)) .nil)))) .nil)⟩

def td_check_stream (a : Addr) : Td where
  name := "check_stream"
  qual := "check_stream"
  addr := a
  top := true
  st := topS 12
  ps := ["stream"]
  N := ["stream"]
  fd := ⟨1, 1, false,
    (.cons (.ifs (.not (.call 2 (.cons (.var 0) (.cons (.glo "MOST_SIGNS_checks" (.int 1000)) .nil)))) (.cons .never .nil) .nil) .nil)⟩

def td_is_term (a : Addr) : Td where
  name := "is_term"
  qual := "is_term"
  addr := a
  top := true
  st := topS 18
  ps := ["value"]
  N := ["value", "waiting", "nodes", "node"]
  fd := ⟨1, 4, false,
    (.cons (.asg (.nm 1) (.new true (.disp (.cons (.var 0) .nil)))) (.cons (.asg (.nm 2) (.cst (.int 0))) (.cons (.whl (.cmp .NotEq (.var 1) (.new false (.disp .nil))) (.cons (.asg (.nm 3) (.mt .pop (.var 1) .nil)) (.cons (.aug 2 .Add (.cst (.int 1))) (.cons (.ifs (.or (.cons (.cmp .Gt (.var 2) (.glo "_MOST_NODES" (.int 9))) (.cons (.not (.call 9 (.cons (.var 3) .nil))) .nil))) (.cons (.ret (.cst (.bl false))) .nil) .nil) (.cons (.ex (.mt .extend (.var 1) (.cons (.call 7 (.cons (.var 3) .nil)) .nil))) .nil))))) (.cons (.ret (.cst (.bl true))) .nil))))⟩

def td_check_term (a : Addr) : Td where
  name := "check_term"
  qual := "check_term"
  addr := a
  top := true
  st := topS 19
  ps := ["term"]
  N := ["term"]
  fd := ⟨1, 1, false,
    (.cons (.ifs (.not (.call 4 (.cons (.var 0) .nil))) (.cons .never .nil) .nil) .nil)⟩

def td_word_of (a : Addr) : Td where
  name := "word_of"
  qual := "word_of"
  addr := a
  top := true
  st := topS 20
  ps := ["node"]
  N := ["node"]
  fd := ⟨1, 1, false,
    (.cons (.ifs (.bi .isi (.cons (.var 0) (.cons (.glo "str" (.ty "str")) .nil))) (.cons (.ret (.var 0)) .nil) .nil) (.cons (.ret (.idx (.var 0) (.cst (.int 0)))) .nil))⟩

def td_parts_of (a : Addr) : Td where
  name := "parts_of"
  qual := "parts_of"
  addr := a
  top := true
  st := topS 21
  ps := ["node"]
  N := ["node", "told", "_"]
  fd := ⟨1, 3, false,
    (.cons (.ifs (.cmp .Eq (.call 6 (.cons (.var 0) .nil)) (.cst (.str "in"))) (.cons (.ret (.new false (.disp .nil))) .nil) .nil) (.cons (.asg (.tp (.cons (.nm 1) (.cons (.nm 2) .nil))) (.gsub "_FORMS" ["not", "late", "twice", "half", "change", "count", "by", "keep", "then"] [(.tup [(.int 0), (.int 1)]), (.tup [(.int 1), (.int 1)]), (.tup [(.int 0), (.int 1)]), (.tup [(.int 0), (.int 1)]), (.tup [(.int 0), (.int 1)]), (.tup [(.int 0), (.int 1)]), (.tup [(.int 1), (.int 2)]), (.tup [(.int 0), (.int 2)]), (.tup [(.int 0), (.int 2)])] (.call 6 (.cons (.var 0) .nil)))) (.cons (.ret (.new false (.ofSeq (.slc (.var 0) (.so (.op .Add (.cst (.int 1)) (.var 1))) .no)))) .nil)))⟩

def td_flow_of (a : Addr) : Td where
  name := "flow_of"
  qual := "flow_of"
  addr := a
  top := true
  st := topS 22
  ps := ["term", "stream"]
  N := ["term", "stream"]
  fd := ⟨2, 2, false,
    (.cons (.ex (.call 5 (.cons (.var 0) .nil))) (.cons (.ex (.call 3 (.cons (.var 1) .nil))) (.cons (.ret (.call 10 (.cons (.var 0) (.cons (.var 1) .nil)))) .nil)))⟩

def td_is_node (a : Addr) : Td where
  name := "_is_node"
  qual := "_is_node"
  addr := a
  top := true
  st := topS 23
  ps := ["value"]
  N := ["value"]
  fd := ⟨1, 1, false,
    (.cons (.ifs (.not (.bi .isi (.cons (.var 0) (.cons (.glo "tuple" (.ty "tuple")) .nil)))) (.cons (.ret (.and (.cons (.bi .isi (.cons (.var 0) (.cons (.glo "str" (.ty "str")) .nil))) (.cons (.cmp .Eq (.var 0) (.cst (.str "in"))) .nil)))) .nil) .nil) (.cons (.ifs (.or (.cons (.cmp .Eq (.var 0) (.tup .nil)) (.cons (.not (.bi .isi (.cons (.idx (.var 0) (.cst (.int 0))) (.cons (.glo "str" (.ty "str")) .nil)))) (.cons (.gin "_FORMS" ["not", "late", "twice", "half", "change", "count", "by", "keep", "then"] true (.idx (.var 0) (.cst (.int 0)))) .nil)))) (.cons (.ret (.cst (.bl false))) .nil) .nil) (.cons (.ifs (.cmp .NotEq (.bi .len (.cons (.var 0) .nil)) (.op .Add (.cst (.int 1)) (.bi .sum (.cons (.gsub "_FORMS" ["not", "late", "twice", "half", "change", "count", "by", "keep", "then"] [(.tup [(.int 0), (.int 1)]), (.tup [(.int 1), (.int 1)]), (.tup [(.int 0), (.int 1)]), (.tup [(.int 0), (.int 1)]), (.tup [(.int 0), (.int 1)]), (.tup [(.int 0), (.int 1)]), (.tup [(.int 1), (.int 2)]), (.tup [(.int 0), (.int 2)]), (.tup [(.int 0), (.int 2)])] (.idx (.var 0) (.cst (.int 0)))) .nil)))) (.cons (.ret (.cst (.bl false))) .nil) .nil) (.cons (.ifs (.cmp .Eq (.idx (.var 0) (.cst (.int 0))) (.cst (.str "late"))) (.cons (.ret (.call 0 (.cons (.idx (.var 0) (.cst (.int 1))) .nil))) .nil) .nil) (.cons (.ret (.or (.cons (.cmp .NotEq (.idx (.var 0) (.cst (.int 0))) (.cst (.str "by"))) (.cons (.and (.cons (.call 1 (.cons (.idx (.var 0) (.cst (.int 1))) .nil)) (.cons (.cmp .Eq (.bi .len (.cons (.idx (.var 0) (.cst (.int 1))) .nil)) (.glo "_TABLE_SIGNS" (.int 4))) .nil))) .nil)))) .nil)))))⟩

def td_flow_at (a : Addr) : Td where
  name := "_flow_at"
  qual := "_flow_at"
  addr := a
  top := true
  st := topS 24
  ps := ["term", "stream"]
  N := ["term", "stream", "flow", "part"]
  fd := ⟨2, 4, false,
    (.cons (.ifs (.cmp .Eq (.call 6 (.cons (.var 0) .nil)) (.cst (.str "in"))) (.cons (.asg (.nm 2) (.var 1)) .nil) (.cons (.ifs (.cmp .Eq (.call 6 (.cons (.var 0) .nil)) (.cst (.str "then"))) (.cons (.asg (.nm 2) (.call 10 (.cons (.idx (.var 0) (.cst (.int 2))) (.cons (.call 10 (.cons (.idx (.var 0) (.cst (.int 1))) (.cons (.var 1) .nil))) .nil)))) .nil) (.cons (.asg (.nm 2) (.call 11 (.cons (.var 0) (.cons (.new false (.comp [("part", 3)] (.nm 3) (.lst (.call 7 (.cons (.var 0) .nil))) .no (.call 10 (.cons (.var 3) (.cons (.var 1) .nil))))) .nil)))) .nil)) .nil)) (.cons (.ifs (.cmp .Gt (.bi .len (.cons (.var 2) .nil)) (.glo "MOST_SIGNS_terms" (.int 8000))) (.cons .never .nil) .nil) (.cons (.ret (.var 2)) .nil)))⟩

def td_given (a : Addr) : Td where
  name := "_given"
  qual := "_given"
  addr := a
  top := true
  st := topS 25
  ps := ["term", "flows"]
  N := ["term", "flows", "word", "one", "other"]
  fd := ⟨2, 5, false,
    (.cons (.asg (.nm 2) (.call 6 (.cons (.var 0) .nil))) (.cons (.ifs (.cmp .Eq (.var 2) (.cst (.str "by"))) (.cons (.ret (.mt .join (.cst (.str "")) (.cons (.new false (.comp [("one", 3), ("other", 4)] (.tp (.cons (.nm 3) (.cons (.nm 4) .nil))) (.zipS (.var 1)) .no (.idx (.idx (.var 0) (.cst (.int 1))) (.op .Add (.op .Mult (.cst (.int 2)) (.bi .int (.cons (.var 3) .nil))) (.bi .int (.cons (.var 4) .nil)))))) .nil))) .nil) .nil) (.cons (.ifs (.cmp .Eq (.var 2) (.cst (.str "keep"))) (.cons (.ret (.mt .join (.cst (.str "")) (.cons (.new false (.comp [("one", 3), ("other", 4)] (.tp (.cons (.nm 3) (.cons (.nm 4) .nil))) (.zipS (.var 1)) (.so (.cmp .Eq (.var 4) (.cst (.str "1")))) (.var 3))) .nil))) .nil) .nil) (.cons (.ret (.call 12 (.cons (.var 0) (.cons (.idx (.var 1) (.cst (.int 0))) .nil)))) .nil))))⟩

def td_given_of_one (a : Addr) : Td where
  name := "_given_of_one"
  qual := "_given_of_one"
  addr := a
  top := true
  st := topS 26
  ps := ["term", "flow"]
  N := ["term", "flow", "word", "sign", "last"]
  fd := ⟨2, 5, false,
    (.cons (.asg (.nm 2) (.call 6 (.cons (.var 0) .nil))) (.cons (.ifs (.cmp .Eq (.var 2) (.cst (.str "not"))) (.cons (.ret (.mt .join (.cst (.str "")) (.cons (.new false (.comp [("sign", 3)] (.nm 3) (.str (.var 1)) .no (.call 14 (.cons (.var 3) (.cons (.cst (.str "1")) .nil))))) .nil))) .nil) .nil) (.cons (.ifs (.cmp .Eq (.var 2) (.cst (.str "late"))) (.cons (.ret (.slc (.op .Add (.idx (.var 0) (.cst (.int 1))) (.var 1)) .no (.so (.bi .len (.cons (.var 1) .nil))))) .nil) .nil) (.cons (.ifs (.cmp .Eq (.var 2) (.cst (.str "twice"))) (.cons (.ret (.mt .join (.cst (.str "")) (.cons (.new false (.comp [("sign", 3)] (.nm 3) (.str (.var 1)) .no (.op .Mult (.var 3) (.cst (.int 2))))) .nil))) .nil) .nil) (.cons (.ifs (.cmp .Eq (.var 2) (.cst (.str "half"))) (.cons (.ret (.stp (.var 1) 1 2)) .nil) .nil) (.cons (.ifs (.cmp .Eq (.var 2) (.cst (.str "change"))) (.cons (.ret (.mt .join (.cst (.str "")) (.cons (.new false (.comp [("last", 4), ("sign", 3)] (.tp (.cons (.nm 4) (.cons (.nm 3) .nil))) (.zipT (.op .Add (.cst (.str "0")) (.var 1)) (.var 1)) .no (.call 14 (.cons (.var 4) (.cons (.var 3) .nil))))) .nil))) .nil) .nil) (.cons (.ret (.call 13 (.cons (.var 1) .nil))) .nil)))))))⟩

def td_counted (a : Addr) : Td where
  name := "_counted"
  qual := "_counted"
  addr := a
  top := true
  st := topS 27
  ps := ["flow"]
  N := ["flow", "found", "last", "sign"]
  fd := ⟨1, 4, false,
    (.cons (.asg (.nm 1) (.cst (.str ""))) (.cons (.asg (.nm 2) (.cst (.str "0"))) (.cons (.for (.nm 3) (.str (.var 0)) (.cons (.asg (.nm 2) (.call 14 (.cons (.var 2) (.cons (.var 3) .nil)))) (.cons (.asg (.nm 1) (.op .Add (.var 1) (.var 2))) .nil))) (.cons (.ret (.var 1)) .nil))))⟩

def td_unlike (a : Addr) : Td where
  name := "_unlike"
  qual := "_unlike"
  addr := a
  top := true
  st := topS 28
  ps := ["one", "other"]
  N := ["one", "other"]
  fd := ⟨2, 2, false,
    (.cons (.ifs (.cmp .Eq (.var 0) (.var 1)) (.cons (.ret (.cst (.str "0"))) .nil) .nil) (.cons (.ret (.cst (.str "1"))) .nil))⟩

def td_law_pot (a : Addr) : Td where
  name := "_law_pot"
  qual := "_law_pot"
  addr := a
  top := true
  st := topS 30
  ps := ["_law_script", "_law_k"]
  N := ["_law_script", "_law_k", "_law_cell"]
  fd := ⟨2, 3, true,
    (.cons (.asg (.nm 2) (.op .Add (.op .Mult (.cst (.int 233)) (.var 1)) (.cst (.int 81)))) (.cons (.ifs (.cmp .Lt (.var 1) (.bi .len (.cons (.var 0) .nil))) (.cons (.asg (.nm 2) (.bi .abs (.cons (.idx (.var 0) (.var 1)) .nil))) .nil) .nil) (.cons (.ret (.new true (.disp (.cons (.bi .max2 (.cons (.cst (.int 0)) (.cons (.op .Sub (.var 2) (.op .Pow (.cst (.int 10)) (.cst (.int 18)))) .nil))) (.cons (.op .Add (.op .Mod (.bi .int (.cons (.op .Add (.op .Add (.op .Mult (.op .Mod (.bi .int (.cons (.var 2) .nil)) (.cst (.int 2147483563))) (.cst (.int 48271))) (.op .Mult (.cst (.int 6043)) (.var 1))) (.cst (.int 171))) .nil)) (.cst (.int 2147483543))) (.cst (.int 1))) .nil))))) .nil)))⟩

def td_law_draw (a : Addr) : Td where
  name := "_law_draw"
  qual := "_law_draw"
  addr := a
  top := true
  st := topS 31
  ps := ["_law_pot_here", "_law_size"]
  N := ["_law_pot_here", "_law_size", "_law_digit"]
  fd := ⟨2, 3, false,
    (.cons (.ifs (.cmp .Gt (.idx (.var 0) (.cst (.int 0))) (.cst (.int 0))) (.cons (.asg (.tp (.cons (.sub (.var 0) (.cst (.int 0))) (.cons (.nm 2) .nil))) (.bi .divmod (.cons (.idx (.var 0) (.cst (.int 0))) (.cons (.var 1) .nil)))) (.cons (.ret (.var 2)) .nil)) .nil) (.cons (.asg (.sub (.var 0) (.cst (.int 1))) (.op .Mod (.bi .int (.cons (.op .Add (.op .Mult (.idx (.var 0) (.cst (.int 1))) (.cst (.int 48271))) (.cst (.int 22847))) .nil)) (.cst (.int 2147483543)))) (.cons (.ret (.op .Mod (.bi .int (.cons (.op .FloorDiv (.op .Mod (.bi .int (.cons (.op .Mult (.idx (.var 0) (.cst (.int 1))) (.idx (.var 0) (.cst (.int 1)))) .nil)) (.cst (.int 2147483563))) (.cst (.int 19))) .nil)) (.var 1))) .nil)))⟩

def td_law_pick (a : Addr) : Td where
  name := "_law_pick"
  qual := "_law_pick"
  addr := a
  top := true
  st := topS 32
  ps := ["_law_pot_here", "_law_some"]
  N := ["_law_pot_here", "_law_some"]
  fd := ⟨2, 2, false,
    (.cons (.ret (.idx (.var 1) (.call 16 (.cons (.var 0) (.cons (.bi .len (.cons (.var 1) .nil)) .nil))))) .nil)⟩

def td_law_term (a : Addr) : Td where
  name := "_law_term"
  qual := "_law_term"
  addr := a
  top := true
  st := topS 33
  ps := ["_law_pot_here", "_law_most"]
  N := ["_law_pot_here", "_law_most", "_law_way", "_law_left", "_law_word", "_law_part", "_law_one", "_law_other", "_law_own_table", "_law_turn"]
  fd := ⟨2, 10, false,
    (.cons (.asg (.nm 2) (.call 16 (.cons (.var 0) (.cons (.cst (.int 12)) .nil)))) (.cons (.ifs (.or (.cons (.cmp .Lt (.var 1) (.cst (.int 2))) (.cons (.cmp .Eq (.var 2) (.cst (.int 0))) .nil))) (.cons (.ret (.cst (.str "in"))) .nil) .nil) (.cons (.ifs (.or (.cons (.cmp .Lt (.var 2) (.cst (.int 7))) (.cons (.cmp .Lt (.var 1) (.cst (.int 3))) .nil))) (.cons (.asg (.nm 4) (.call 17 (.cons (.var 0) (.cons (.new false (.disp (.cons (.cst (.str "not")) (.cons (.cst (.str "twice")) (.cons (.cst (.str "half")) (.cons (.cst (.str "change")) (.cons (.cst (.str "count")) (.cons (.cst (.str "late")) .nil)))))))) .nil)))) (.cons (.asg (.nm 5) (.call 18 (.cons (.var 0) (.cons (.op .Sub (.var 1) (.cst (.int 1))) .nil)))) (.cons (.ret (.ite (.cmp .Eq (.var 4) (.cst (.str "late"))) (.tup (.cons (.cst (.str "late")) (.cons (.call 17 (.cons (.var 0) (.cons (.new false (.disp (.cons (.cst (.str "0")) (.cons (.cst (.str "1")) .nil)))) .nil))) (.cons (.var 5) .nil)))) (.tup (.cons (.var 4) (.cons (.var 5) .nil))))) .nil))) .nil) (.cons (.asg (.nm 3) (.op .Add (.cst (.int 1)) (.call 16 (.cons (.var 0) (.cons (.op .Sub (.var 1) (.cst (.int 2))) .nil))))) (.cons (.par [6, 7] (.cons (.call 18 (.cons (.var 0) (.cons (.var 3) .nil))) (.cons (.call 18 (.cons (.var 0) (.cons (.op .Sub (.op .Sub (.var 1) (.cst (.int 1))) (.var 3)) .nil))) .nil))) (.cons (.asg (.nm 4) (.call 17 (.cons (.var 0) (.cons (.new false (.disp (.cons (.cst (.str "by")) (.cons (.cst (.str "by")) (.cons (.cst (.str "keep")) (.cons (.cst (.str "then")) .nil)))))) .nil)))) (.cons (.ifs (.cmp .Eq (.var 4) (.cst (.str "by"))) (.cons (.asg (.nm 8) (.mt .join (.cst (.str "")) (.cons (.new false (.comp [("_law_turn", 9)] (.nm 9) (.rng1 (.cst (.int 4))) .no (.call 17 (.cons (.var 0) (.cons (.new false (.disp (.cons (.cst (.str "0")) (.cons (.cst (.str "1")) .nil)))) .nil))))) .nil))) (.cons (.ret (.tup (.cons (.cst (.str "by")) (.cons (.call 17 (.cons (.var 0) (.cons (.new false (.disp (.cons (.cst (.str "0110")) (.cons (.cst (.str "0001")) (.cons (.cst (.str "0111")) (.cons (.var 8) .nil)))))) .nil))) (.cons (.var 6) (.cons (.var 7) .nil)))))) .nil)) .nil) (.cons (.ret (.tup (.cons (.var 4) (.cons (.var 6) (.cons (.var 7) .nil))))) .nil))))))))⟩

def td_law_single (a : Addr) : Td where
  name := "_law_single"
  qual := "_law_single"
  addr := a
  top := true
  st := topS 34
  ps := ["_law_term_here", "_law_flow_here"]
  N := ["_law_term_here", "_law_flow_here", "_law_sign", "_law_found", "_law_last", "_law_told"]
  fd := ⟨2, 6, false,
    (.cons (.ifs (.cmp .Eq (.idx (.var 0) (.cst (.int 0))) (.cst (.str "not"))) (.cons (.ret (.mt .join (.cst (.str "")) (.cons (.new false (.comp [("_law_sign", 2)] (.nm 2) (.str (.var 1)) .no (.dsub [("0", "1"), ("1", "0")] (.var 2)))) .nil))) .nil) .nil) (.cons (.ifs (.cmp .Eq (.idx (.var 0) (.cst (.int 0))) (.cst (.str "late"))) (.cons (.ret (.slc (.op .Add (.idx (.var 0) (.cst (.int 1))) (.var 1)) .no (.so (.bi .len (.cons (.var 1) .nil))))) .nil) .nil) (.cons (.ifs (.cmp .Eq (.idx (.var 0) (.cst (.int 0))) (.cst (.str "twice"))) (.cons (.ret (.mt .join (.cst (.str "")) (.cons (.new false (.comp [("_law_sign", 2)] (.nm 2) (.str (.var 1)) .no (.op .Add (.var 2) (.var 2)))) .nil))) .nil) .nil) (.cons (.ifs (.cmp .Eq (.idx (.var 0) (.cst (.int 0))) (.cst (.str "half"))) (.cons (.ret (.stp (.var 1) 1 2)) .nil) .nil) (.cons (.par [3, 4] (.cons (.new true (.disp .nil)) (.cons (.cst (.str "0")) .nil))) (.cons (.for (.nm 2) (.str (.var 1)) (.cons (.asg (.nm 5) (.ite (.cmp .NotEq (.var 2) (.var 4)) (.cst (.str "1")) (.cst (.str "0")))) (.cons (.ex (.mt .append (.var 3) (.cons (.var 5) .nil))) (.cons (.asg (.nm 4) (.ite (.cmp .Eq (.idx (.var 0) (.cst (.int 0))) (.cst (.str "change"))) (.var 2) (.var 5))) .nil)))) (.cons (.ret (.mt .join (.cst (.str "")) (.cons (.var 3) .nil))) .nil)))))))⟩

def td_law_flow (a : Addr) : Td where
  name := "_law_flow"
  qual := "_law_flow"
  addr := a
  top := true
  st := topS 35
  ps := ["_law_term_here", "_law_stream_here"]
  N := ["_law_term_here", "_law_stream_here", "_law_pairs", "_law_sign", "_law_mark"]
  fd := ⟨2, 5, false,
    (.cons (.ifs (.cmp .Eq (.var 0) (.cst (.str "in"))) (.cons (.ret (.var 1)) .nil) .nil) (.cons (.ifs (.cmp .Eq (.idx (.var 0) (.cst (.int 0))) (.cst (.str "then"))) (.cons (.ret (.call 20 (.cons (.idx (.var 0) (.cst (.int 2))) (.cons (.call 20 (.cons (.idx (.var 0) (.cst (.int 1))) (.cons (.var 1) .nil))) .nil)))) .nil) .nil) (.cons (.ifs (.cmp .NotIn (.idx (.var 0) (.cst (.int 0))) (.tup (.cons (.cst (.str "by")) (.cons (.cst (.str "keep")) .nil)))) (.cons (.ret (.call 19 (.cons (.var 0) (.cons (.call 20 (.cons (.idx (.var 0) (.neg (.cst (.int 1)))) (.cons (.var 1) .nil))) .nil)))) .nil) .nil) (.cons (.asg (.nm 2) (.new false (.zipL (.call 20 (.cons (.idx (.var 0) (.neg (.cst (.int 2)))) (.cons (.var 1) .nil))) (.call 20 (.cons (.idx (.var 0) (.neg (.cst (.int 1)))) (.cons (.var 1) .nil)))))) (.cons (.ifs (.cmp .Eq (.idx (.var 0) (.cst (.int 0))) (.cst (.str "keep"))) (.cons (.ret (.mt .join (.cst (.str "")) (.cons (.new false (.comp [("_law_sign", 3), ("_law_mark", 4)] (.tp (.cons (.nm 3) (.cons (.nm 4) .nil))) (.lst (.var 2)) (.so (.cmp .Eq (.var 4) (.cst (.str "1")))) (.var 3))) .nil))) .nil) .nil) (.cons (.ret (.mt .join (.cst (.str "")) (.cons (.new false (.comp [("_law_sign", 3), ("_law_mark", 4)] (.tp (.cons (.nm 3) (.cons (.nm 4) .nil))) (.lst (.var 2)) .no (.idx (.idx (.var 0) (.cst (.int 1))) (.op .Add (.op .Mult (.cst (.int 2)) (.bi .int (.cons (.var 3) .nil))) (.bi .int (.cons (.var 4) .nil)))))) .nil))) .nil))))))⟩

def td_law_stream (a : Addr) : Td where
  name := "_law_stream"
  qual := "_law_stream"
  addr := a
  top := true
  st := topS 36
  ps := ["_law_pot_here", "_law_most"]
  N := ["_law_pot_here", "_law_most", "_law_turn"]
  fd := ⟨2, 3, false,
    (.cons (.ret (.mt .join (.cst (.str "")) (.cons (.new false (.comp [("_law_turn", 2)] (.nm 2) (.rng1 (.call 16 (.cons (.var 0) (.cons (.op .Add (.var 1) (.cst (.int 1))) .nil)))) .no (.call 17 (.cons (.var 0) (.cons (.new false (.disp (.cons (.cst (.str "0")) (.cons (.cst (.str "1")) .nil)))) .nil))))) .nil))) .nil)⟩

def td_law_nodes (a : Addr) : Td where
  name := "_law_nodes"
  qual := "_law_nodes"
  addr := a
  top := true
  st := topS 37
  ps := ["_law_term_here"]
  N := ["_law_term_here", "_law_parts", "_law_part"]
  fd := ⟨1, 3, false,
    (.cons (.ifs (.cmp .Eq (.var 0) (.cst (.str "in"))) (.cons (.ret (.cst (.int 1))) .nil) .nil) (.cons (.asgC 1 false (.comp [("_law_part", 2)] (.nm 2) (.tup (.slc (.var 0) (.so (.cst (.int 1))) .no)) (.so (.or (.cons (.cmp .Eq (.var 2) (.cst (.str "in"))) (.cons (.bi .isi (.cons (.var 2) (.cons (.glo "tuple" (.ty "tuple")) .nil))) .nil)))) (.var 2))) (.cons (.ret (.op .Add (.cst (.int 1)) (.bi .sum (.cons (.new false (.comp [("_law_part", 2)] (.nm 2) (.lst (.var 1)) .no (.call 22 (.cons (.var 2) .nil)))) .nil)))) .nil)))⟩

def td_law_around (a : Addr) : Td where
  name := "_law_around"
  qual := "_law_around"
  addr := a
  top := true
  st := topS 38
  ps := ["_law_pot_here", "_law_term_here"]
  N := ["_law_pot_here", "_law_term_here", "_law_word"]
  fd := ⟨2, 3, false,
    (.cons (.asg (.nm 2) (.call 17 (.cons (.var 0) (.cons (.new false (.disp (.cons (.cst (.str "not")) (.cons (.cst (.str "twice")) (.cons (.cst (.str "half")) (.cons (.cst (.str "change")) (.cons (.cst (.str "count")) .nil))))))) .nil)))) (.cons (.ret (.call 17 (.cons (.var 0) (.cons (.new false (.disp (.cons (.tup (.cons (.var 2) (.cons (.var 1) .nil))) (.cons (.tup (.cons (.cst (.str "late")) (.cons (.call 17 (.cons (.var 0) (.cons (.new false (.disp (.cons (.cst (.str "0")) (.cons (.cst (.str "1")) .nil)))) .nil))) (.cons (.var 1) .nil)))) (.cons (.tup (.cons (.cst (.str "then")) (.cons (.var 1) (.cons (.tup (.cons (.var 2) (.cons (.cst (.str "in")) .nil))) .nil)))) .nil))))) .nil)))) .nil))⟩

def td_law_begun_right (a : Addr) : Td where
  name := "_law_begun_right"
  qual := "_law_begun_right"
  addr := a
  top := true
  st := topS 39
  ps := ["_law_term_here", "_law_stream_here"]
  N := ["_law_term_here", "_law_stream_here", "_law_last", "_law_size", "_law_flow_here"]
  fd := ⟨2, 5, false,
    (.cons (.asg (.nm 2) (.cst (.str ""))) (.cons (.for (.nm 3) (.rng1 (.op .Add (.bi .len (.cons (.var 1) .nil)) (.cst (.int 1)))) (.cons (.asg (.nm 4) (.call 8 (.cons (.var 0) (.cons (.slc (.var 1) .no (.so (.var 3))) .nil)))) (.cons (.ifs (.or (.cons (.not (.mt .startswith (.var 4) (.cons (.var 2) .nil))) (.cons (.cmp .NotEq (.var 4) (.call 20 (.cons (.var 0) (.cons (.slc (.var 1) .no (.so (.var 3))) .nil)))) .nil))) (.cons (.ret (.cst (.bl false))) .nil) .nil) (.cons (.asg (.nm 2) (.var 4)) .nil)))) (.cons (.ret (.cst (.bl true))) .nil)))⟩

def td_law_long_right (a : Addr) : Td where
  name := "_law_long_right"
  qual := "_law_long_right"
  addr := a
  top := true
  st := topS 40
  ps := ["_law_pot_here"]
  N := ["_law_pot_here", "_law_piece", "_law_last", "_law_stream_here", "_law_term_here", "_law_size"]
  fd := ⟨1, 6, false,
    (.cons (.par [4, 5] (.cons (.call 18 (.cons (.var 0) (.cons (.op .Add (.cst (.int 1)) (.call 16 (.cons (.var 0) (.cons (.cst (.int 4)) .nil)))) .nil))) (.cons (.op .Add (.cst (.int 200)) (.call 16 (.cons (.var 0) (.cons (.cst (.int 801)) .nil)))) .nil))) (.cons (.asg (.nm 1) (.call 17 (.cons (.var 0) (.cons (.new false (.disp (.cons (.cst (.str "0")) (.cons (.cst (.str "1")) (.cons (.cst (.str "01")) (.cons (.op .Add (.call 21 (.cons (.var 0) (.cons (.cst (.int 12)) .nil))) (.cst (.str "1"))) .nil)))))) .nil)))) (.cons (.asg (.nm 2) (.call 21 (.cons (.var 0) (.cons (.cst (.int 4)) .nil)))) (.cons (.asg (.nm 3) (.op .Add (.call 17 (.cons (.var 0) (.cons (.new false (.disp (.cons (.cst (.str "")) (.cons (.cst (.str "1")) .nil)))) .nil))) (.op .Mult (.var 1) (.op .FloorDiv (.var 5) (.bi .len (.cons (.var 1) .nil)))))) (.cons (.asg (.nm 3) (.slc (.op .Add (.var 3) (.var 2)) .no (.so (.cst (.int 1000))))) (.cons (.ret (.cmp .Eq (.call 8 (.cons (.var 4) (.cons (.var 3) .nil))) (.call 20 (.cons (.var 4) (.cons (.var 3) .nil))))) .nil))))))⟩

def td_law_right (a : Addr) : Td where
  name := "_law_right"
  qual := "_law_right"
  addr := a
  top := true
  st := topS 41
  ps := ["_law_pot_here"]
  N := ["_law_pot_here", "_law_term_here", "_law_stream_here", "_law_wide", "_law_is_so", "_law_shown", "_law_due"]
  fd := ⟨1, 7, false,
    (.cons (.ifs (.and (.cons (.cmp .Eq (.call 16 (.cons (.var 0) (.cons (.cst (.int 3)) .nil))) (.cst (.int 0))) (.cons (.not (.call 25 (.cons (.var 0) .nil))) .nil))) (.cons (.ret (.cst (.bl false))) .nil) .nil) (.cons (.asg (.nm 1) (.call 18 (.cons (.var 0) (.cons (.op .Add (.cst (.int 1)) (.call 16 (.cons (.var 0) (.cons (.cst (.int 8)) .nil)))) .nil)))) (.cons (.asg (.nm 2) (.call 21 (.cons (.var 0) (.cons (.call 17 (.cons (.var 0) (.cons (.new false (.disp (.cons (.cst (.int 12)) (.cons (.cst (.int 12)) (.cons (.cst (.int 12)) (.cons (.cst (.int 5)) (.cons (.cst (.int 30)) .nil))))))) .nil))) .nil)))) (.cons (.par [5, 6] (.cons (.bi .repr (.cons (.var 1) .nil)) (.cons (.call 20 (.cons (.var 1) (.cons (.var 2) .nil))) .nil))) (.cons (.ifs (.or (.cons (.not (.call 4 (.cons (.var 1) .nil))) (.cons (.cmp .NotEq (.call 8 (.cons (.var 1) (.cons (.var 2) .nil))) (.var 6)) (.cons (.cmp .NotEq (.callK ⟨8, 0, ["stream", "term"], [], [1, 0]⟩ .nil (.cons (.var 2) (.cons (.var 1) .nil))) (.var 6)) .nil)))) (.cons (.ret (.cst (.bl false))) .nil) .nil) (.cons (.asg (.nm 3) (.call 23 (.cons (.var 0) (.cons (.var 1) .nil)))) (.cons (.asg (.nm 4) (.cmp .Lt (.call 22 (.cons (.var 3) .nil)) (.cst (.int 10)))) (.cons (.ifs (.or (.cons (.cmp .NotEq (.call 4 (.cons (.var 3) .nil)) (.var 4)) (.cons (.and (.cons (.var 4) (.cons (.cmp .NotEq (.call 8 (.cons (.var 3) (.cons (.var 2) .nil))) (.call 20 (.cons (.var 3) (.cons (.var 2) .nil)))) .nil))) .nil))) (.cons (.ret (.cst (.bl false))) .nil) .nil) (.cons (.ifs (.or (.cons (.not (.call 24 (.cons (.var 1) (.cons (.slc (.var 2) .no (.so (.cst (.int 6)))) .nil)))) (.cons (.cmp .NotEq (.call 8 (.cons (.var 1) (.cons (.cst (.str "")) .nil))) (.cst (.str ""))) .nil))) (.cons (.ret (.cst (.bl false))) .nil) .nil) (.cons (.ret (.and (.cons (.cmp .Eq (.call 8 (.cons (.var 1) (.cons (.var 2) .nil))) (.var 6)) (.cons (.cmp .Eq (.bi .repr (.cons (.var 1) .nil)) (.var 5)) .nil)))) .nil))))))))))⟩

def td_law (a : Addr) : Td where
  name := "law"
  qual := "law"
  addr := a
  top := true
  st := topS 42
  ps := ["_law_script"]
  N := ["_law_script", "_law_k"]
  fd := ⟨1, 2, false,
    (.cons (.ret (.bi .all (.cons (.new false (.comp [("_law_k", 1)] (.nm 1) (.rng1 (.bi .max2 (.cons (.cst (.int 1)) (.cons (.bi .min2 (.cons (.cst (.int 2)) (.cons (.bi .len (.cons (.var 0) .nil)) .nil))) .nil)))) .no (.call 26 (.cons (.call 15 (.cons (.var 0) (.cons (.var 1) .nil))) .nil)))) .nil))) .nil)⟩
def tx (ad : Str → Addr) : Tx := { ts := [td_is_sign (ad "is_sign"), td_is_text (ad "is_text"), td_is_text_up_to (ad "is_text_up_to"), td_check_stream (ad "check_stream"), td_is_term (ad "is_term"), td_check_term (ad "check_term"), td_word_of (ad "word_of"), td_parts_of (ad "parts_of"), td_flow_of (ad "flow_of"), td_is_node (ad "_is_node"), td_flow_at (ad "_flow_at"), td_given (ad "_given"), td_given_of_one (ad "_given_of_one"), td_counted (ad "_counted"), td_unlike (ad "_unlike"), td_law_pot (ad "_law_pot"), td_law_draw (ad "_law_draw"), td_law_pick (ad "_law_pick"), td_law_term (ad "_law_term"), td_law_single (ad "_law_single"), td_law_flow (ad "_law_flow"), td_law_stream (ad "_law_stream"), td_law_nodes (ad "_law_nodes"), td_law_around (ad "_law_around"), td_law_begun_right (ad "_law_begun_right"), td_law_long_right (ad "_law_long_right"), td_law_right (ad "_law_right"), td_law (ad "law")], gls := [("MOST_SIGNS_checks", (.int 1000)), ("_MOST_NODES", (.int 9)), ("MOST_SIGNS_terms", (.int 8000)), ("_TABLE_SIGNS", (.int 4))], kbs := [⟨8, 0, ["stream", "term"], [], [1, 0]⟩], gds := [("_FORMS", ["not", "late", "twice", "half", "change", "count", "by", "keep", "then"], [(.tup [(.int 0), (.int 1)]), (.tup [(.int 1), (.int 1)]), (.tup [(.int 0), (.int 1)]), (.tup [(.int 0), (.int 1)]), (.tup [(.int 0), (.int 1)]), (.tup [(.int 0), (.int 1)]), (.tup [(.int 1), (.int 2)]), (.tup [(.int 0), (.int 2)]), (.tup [(.int 0), (.int 2)])])] }
theorem ok0 (ad : Str → Addr) : Td.ok (tx ad).tb (td_is_sign (ad "is_sign")) = true := by kernel_rfl
theorem ok1 (ad : Str → Addr) : Td.ok (tx ad).tb (td_is_text (ad "is_text")) = true := by kernel_rfl
theorem ok2 (ad : Str → Addr) : Td.ok (tx ad).tb (td_is_text_up_to (ad "is_text_up_to")) = true := by kernel_rfl
theorem ok3 (ad : Str → Addr) : Td.ok (tx ad).tb (td_check_stream (ad "check_stream")) = true := by kernel_rfl
theorem ok4 (ad : Str → Addr) : Td.ok (tx ad).tb (td_is_term (ad "is_term")) = true := by kernel_rfl
theorem ok5 (ad : Str → Addr) : Td.ok (tx ad).tb (td_check_term (ad "check_term")) = true := by kernel_rfl
theorem ok6 (ad : Str → Addr) : Td.ok (tx ad).tb (td_word_of (ad "word_of")) = true := by kernel_rfl
theorem ok7 (ad : Str → Addr) : Td.ok (tx ad).tb (td_parts_of (ad "parts_of")) = true := by kernel_rfl
theorem ok8 (ad : Str → Addr) : Td.ok (tx ad).tb (td_flow_of (ad "flow_of")) = true := by kernel_rfl
theorem ok9 (ad : Str → Addr) : Td.ok (tx ad).tb (td_is_node (ad "_is_node")) = true := by kernel_rfl
theorem ok10 (ad : Str → Addr) : Td.ok (tx ad).tb (td_flow_at (ad "_flow_at")) = true := by kernel_rfl
theorem ok11 (ad : Str → Addr) : Td.ok (tx ad).tb (td_given (ad "_given")) = true := by kernel_rfl
theorem ok12 (ad : Str → Addr) : Td.ok (tx ad).tb (td_given_of_one (ad "_given_of_one")) = true := by kernel_rfl
theorem ok13 (ad : Str → Addr) : Td.ok (tx ad).tb (td_counted (ad "_counted")) = true := by kernel_rfl
theorem ok14 (ad : Str → Addr) : Td.ok (tx ad).tb (td_unlike (ad "_unlike")) = true := by kernel_rfl
theorem ok15 (ad : Str → Addr) : Td.ok (tx ad).tb (td_law_pot (ad "_law_pot")) = true := by kernel_rfl
theorem ok16 (ad : Str → Addr) : Td.ok (tx ad).tb (td_law_draw (ad "_law_draw")) = true := by kernel_rfl
theorem ok17 (ad : Str → Addr) : Td.ok (tx ad).tb (td_law_pick (ad "_law_pick")) = true := by kernel_rfl
theorem ok18 (ad : Str → Addr) : Td.ok (tx ad).tb (td_law_term (ad "_law_term")) = true := by kernel_rfl
theorem ok19 (ad : Str → Addr) : Td.ok (tx ad).tb (td_law_single (ad "_law_single")) = true := by kernel_rfl
theorem ok20 (ad : Str → Addr) : Td.ok (tx ad).tb (td_law_flow (ad "_law_flow")) = true := by kernel_rfl
theorem ok21 (ad : Str → Addr) : Td.ok (tx ad).tb (td_law_stream (ad "_law_stream")) = true := by kernel_rfl
theorem ok22 (ad : Str → Addr) : Td.ok (tx ad).tb (td_law_nodes (ad "_law_nodes")) = true := by kernel_rfl
theorem ok23 (ad : Str → Addr) : Td.ok (tx ad).tb (td_law_around (ad "_law_around")) = true := by kernel_rfl
theorem ok24 (ad : Str → Addr) : Td.ok (tx ad).tb (td_law_begun_right (ad "_law_begun_right")) = true := by kernel_rfl
theorem ok25 (ad : Str → Addr) : Td.ok (tx ad).tb (td_law_long_right (ad "_law_long_right")) = true := by kernel_rfl
theorem ok26 (ad : Str → Addr) : Td.ok (tx ad).tb (td_law_right (ad "_law_right")) = true := by kernel_rfl
theorem ok27 (ad : Str → Addr) : Td.ok (tx ad).tb (td_law (ad "law")) = true := by kernel_rfl
def tab : List Fd := [(td_is_sign 0).fd, (td_is_text 0).fd, (td_is_text_up_to 0).fd, (td_check_stream 0).fd, (td_is_term 0).fd, (td_check_term 0).fd, (td_word_of 0).fd, (td_parts_of 0).fd, (td_flow_of 0).fd, (td_is_node 0).fd, (td_flow_at 0).fd, (td_given 0).fd, (td_given_of_one 0).fd, (td_counted 0).fd, (td_unlike 0).fd, (td_law_pot 0).fd, (td_law_draw 0).fd, (td_law_pick 0).fd, (td_law_term 0).fd, (td_law_single 0).fd, (td_law_flow 0).fd, (td_law_stream 0).fd, (td_law_nodes 0).fd, (td_law_around 0).fd, (td_law_begun_right 0).fd, (td_law_long_right 0).fd, (td_law_right 0).fd, (td_law 0).fd]
theorem tab_eq (ad : Str → Addr) : (tx ad).ts.map Td.fd = tab := rfl
theorem sc0 : FnScope (td_is_sign 0).N (td_is_sign 0).ps (defScope (td_is_sign 0).st) := ⟨rfl, rfl, rfl, by decide +kernel, rfl, by decide +kernel, by decide +kernel⟩
theorem sc1 : FnScope (td_is_text 0).N (td_is_text 0).ps (defScope (td_is_text 0).st) := ⟨rfl, rfl, rfl, by decide +kernel, rfl, by decide +kernel, by decide +kernel⟩
theorem sc2 : FnScope (td_is_text_up_to 0).N (td_is_text_up_to 0).ps (defScope (td_is_text_up_to 0).st) := ⟨rfl, rfl, rfl, by decide +kernel, rfl, by decide +kernel, by decide +kernel⟩
theorem sc3 : FnScope (td_check_stream 0).N (td_check_stream 0).ps (defScope (td_check_stream 0).st) := ⟨rfl, rfl, rfl, by decide +kernel, rfl, by decide +kernel, by decide +kernel⟩
theorem sc4 : FnScope (td_is_term 0).N (td_is_term 0).ps (defScope (td_is_term 0).st) := ⟨rfl, rfl, rfl, by decide +kernel, rfl, by decide +kernel, by decide +kernel⟩
theorem sc5 : FnScope (td_check_term 0).N (td_check_term 0).ps (defScope (td_check_term 0).st) := ⟨rfl, rfl, rfl, by decide +kernel, rfl, by decide +kernel, by decide +kernel⟩
theorem sc6 : FnScope (td_word_of 0).N (td_word_of 0).ps (defScope (td_word_of 0).st) := ⟨rfl, rfl, rfl, by decide +kernel, rfl, by decide +kernel, by decide +kernel⟩
theorem sc7 : FnScope (td_parts_of 0).N (td_parts_of 0).ps (defScope (td_parts_of 0).st) := ⟨rfl, rfl, rfl, by decide +kernel, rfl, by decide +kernel, by decide +kernel⟩
theorem sc8 : FnScope (td_flow_of 0).N (td_flow_of 0).ps (defScope (td_flow_of 0).st) := ⟨rfl, rfl, rfl, by decide +kernel, rfl, by decide +kernel, by decide +kernel⟩
theorem sc9 : FnScope (td_is_node 0).N (td_is_node 0).ps (defScope (td_is_node 0).st) := ⟨rfl, rfl, rfl, by decide +kernel, rfl, by decide +kernel, by decide +kernel⟩
theorem sc10 : FnScope (td_flow_at 0).N (td_flow_at 0).ps (defScope (td_flow_at 0).st) := ⟨rfl, rfl, rfl, by decide +kernel, rfl, by decide +kernel, by decide +kernel⟩
theorem sc11 : FnScope (td_given 0).N (td_given 0).ps (defScope (td_given 0).st) := ⟨rfl, rfl, rfl, by decide +kernel, rfl, by decide +kernel, by decide +kernel⟩
theorem sc12 : FnScope (td_given_of_one 0).N (td_given_of_one 0).ps (defScope (td_given_of_one 0).st) := ⟨rfl, rfl, rfl, by decide +kernel, rfl, by decide +kernel, by decide +kernel⟩
theorem sc13 : FnScope (td_counted 0).N (td_counted 0).ps (defScope (td_counted 0).st) := ⟨rfl, rfl, rfl, by decide +kernel, rfl, by decide +kernel, by decide +kernel⟩
theorem sc14 : FnScope (td_unlike 0).N (td_unlike 0).ps (defScope (td_unlike 0).st) := ⟨rfl, rfl, rfl, by decide +kernel, rfl, by decide +kernel, by decide +kernel⟩
theorem sc15 : FnScope (td_law_pot 0).N (td_law_pot 0).ps (defScope (td_law_pot 0).st) := ⟨rfl, rfl, rfl, by decide +kernel, rfl, by decide +kernel, by decide +kernel⟩
theorem sc16 : FnScope (td_law_draw 0).N (td_law_draw 0).ps (defScope (td_law_draw 0).st) := ⟨rfl, rfl, rfl, by decide +kernel, rfl, by decide +kernel, by decide +kernel⟩
theorem sc17 : FnScope (td_law_pick 0).N (td_law_pick 0).ps (defScope (td_law_pick 0).st) := ⟨rfl, rfl, rfl, by decide +kernel, rfl, by decide +kernel, by decide +kernel⟩
theorem sc18 : FnScope (td_law_term 0).N (td_law_term 0).ps (defScope (td_law_term 0).st) := ⟨rfl, rfl, rfl, by decide +kernel, rfl, by decide +kernel, by decide +kernel⟩
theorem sc19 : FnScope (td_law_single 0).N (td_law_single 0).ps (defScope (td_law_single 0).st) := ⟨rfl, rfl, rfl, by decide +kernel, rfl, by decide +kernel, by decide +kernel⟩
theorem sc20 : FnScope (td_law_flow 0).N (td_law_flow 0).ps (defScope (td_law_flow 0).st) := ⟨rfl, rfl, rfl, by decide +kernel, rfl, by decide +kernel, by decide +kernel⟩
theorem sc21 : FnScope (td_law_stream 0).N (td_law_stream 0).ps (defScope (td_law_stream 0).st) := ⟨rfl, rfl, rfl, by decide +kernel, rfl, by decide +kernel, by decide +kernel⟩
theorem sc22 : FnScope (td_law_nodes 0).N (td_law_nodes 0).ps (defScope (td_law_nodes 0).st) := ⟨rfl, rfl, rfl, by decide +kernel, rfl, by decide +kernel, by decide +kernel⟩
theorem sc23 : FnScope (td_law_around 0).N (td_law_around 0).ps (defScope (td_law_around 0).st) := ⟨rfl, rfl, rfl, by decide +kernel, rfl, by decide +kernel, by decide +kernel⟩
theorem sc24 : FnScope (td_law_begun_right 0).N (td_law_begun_right 0).ps (defScope (td_law_begun_right 0).st) := ⟨rfl, rfl, rfl, by decide +kernel, rfl, by decide +kernel, by decide +kernel⟩
theorem sc25 : FnScope (td_law_long_right 0).N (td_law_long_right 0).ps (defScope (td_law_long_right 0).st) := ⟨rfl, rfl, rfl, by decide +kernel, rfl, by decide +kernel, by decide +kernel⟩
theorem sc26 : FnScope (td_law_right 0).N (td_law_right 0).ps (defScope (td_law_right 0).st) := ⟨rfl, rfl, rfl, by decide +kernel, rfl, by decide +kernel, by decide +kernel⟩
theorem sc27 : FnScope (td_law 0).N (td_law 0).ps (defScope (td_law 0).st) := ⟨rfl, rfl, rfl, by decide +kernel, rfl, by decide +kernel, by decide +kernel⟩
end Mc
set_option Elab.async false
set_option linter.all false
set_option maxRecDepth 100000
set_option maxHeartbeats 2000000
namespace Mc
open PySem PySem.Spec PyProof.Rows L2
/-! ### a def of the head as a def of the machine -/
theorem FunX_of {K : PySem.W.Frag} {x q : Str} {st : Stmt} {dvs : List V} {kws : List (Str × V)} {f : Addr} {fd : FuncData} (F : FunD K x q (defArgs st) (defBody st) (defScope st) dvs kws f fd) : FunX K x q st f fd := by
  obtain ⟨oc, od, dV, kV, doc, pm, an, cdv, ct, osl, e, lk, hcd, _, _⟩ := F.ex
  exact ⟨⟨oc, od, dV, kV, doc, pm, an, cdv, ct, osl, e, lk, hcd⟩, F.kp⟩
/-! ### a dict of the top, looked at -/
theorem find_keys {R : Params} : ∀ {l : List DictEntry} {ks : List Str}, l.map He.keyOf = He.keysIn R ks → (∀ z : Str, (l.find? (·.key.isStr z)).isSome = ks.contains z) ∧ l.any (·.refKey) = false
  | [], [], _ => ⟨fun z => rfl, rfl⟩
  | [], k :: ks, h => by cases h
  | e :: r, [], h => by cases h
  | e :: r, k :: ks, h => by
    have h1 : He.keyOf e :: r.map He.keyOf = some (k, PyData.keyHash R k) :: He.keysIn R ks := h
    injection h1 with h2 h3
    obtain ⟨i1, i2⟩ := find_keys h3
    unfold He.keyOf at h2
    split at h2
    · rename_i x t q
      have h5 := (Prod.mk.inj (Option.some.inj h2)).1
      subst h5
      refine ⟨fun z => ?_, ?_⟩
      · rw [List.find?_cons]
        have e1 : e.key.isStr z = (x == z) := by rw [q]; rfl
        rw [e1, List.contains_cons]
        cases hz : (x == z) with
        | true =>
          have e2 : (z == x) = true := by rw [beq_iff_eq] at hz ⊢; exact hz.symm
          rw [e2]; rfl
        | false =>
          have e2 : (z == x) = false := by rw [beq_eq_false_iff_ne] at hz ⊢; exact fun c => hz c.symm
          rw [e2]
          simpa using i1 z
      · rw [List.any_cons, i2]
        have e1 : e.refKey = false := by unfold DictEntry.refKey; rw [q]
        rw [e1]; rfl
    · cases h2
theorem ns_keys {K : PySem.W.Frag} {w : World} {a : Addr} {ks : List Str} (h : He.dicW K a = some (He.keysIn w.params ks)) : ∀ z : Str, ∃ r, PySem.W.nsIn K a z = some r ∧ r.isSome = ks.contains z := by
  intro z
  obtain ⟨es, n, D⟩ := He.dicW_ok h
  unfold He.dicW at h
  rw [D.at_] at h
  have e0 : (decide ("dict" = "dict") && ((#[] : Array (Option Value)).isEmpty && !(a == sysModules))) = true := by rw [D.low]; rfl
  dsimp only at h
  rw [e0] at h
  have h2 := Option.some.inj h
  obtain ⟨i1, i2⟩ := find_keys h2
  have i := i1 z
  unfold PySem.W.nsIn
  rw [D.at_]
  dsimp only
  cases hf : es.toList.find? (·.key.isStr z) with
  | some e => rw [hf] at i; exact ⟨_, rfl, i⟩
  | none => rw [hf] at i; exact ⟨none, by simp only [i2]; rfl, i⟩
def tupI (K : PySem.W.Frag) (u : Value) (is : List Int) : Bool := match u with
  | .ref t => (match K.lookup t with
    | some ⟨.type c, _, .seq its _, _⟩ => decide (c = "tuple") && (decide (its.size ≤ sizeLine) && He.relAll (is.map V.int) its.toList)
    | _ => false)
  | _ => false
def tabI (K : PySem.W.Frag) (a : Addr) (kvs : List (Str × List Int)) : Bool := (match K.lookup a with
  | some ⟨_, _, .dict es _, _⟩ => decide (es.toList.length = kvs.length)
  | _ => false) && kvs.all fun q => match PySem.W.nsIn K a q.1 with
  | some (some u) => tupI K u q.2
  | _ => false
theorem dnl_ints {K : PySem.W.Frag} {H : Hp} {ρ : List Addr} : ∀ is : List Int, DnL K H ρ (is.map D.int) (is.map V.int)
  | [] => DnL.nil
  | i :: r => DnL.cons (dn_int.mpr rfl) (dnl_ints r)
theorem tup_ok {K : PySem.W.Frag} {u : Value} {is : List Int} (h : tupI K u is = true) : ∃ v, RelV v u ∧ ∀ Hd ρ, Dn K Hd ρ (.tup (is.map .int)) v := by
  unfold tupI at h
  cases u with
  | ref t =>
    dsimp only at h
    cases q : K.lookup t with
    | none => rw [q] at h; cases h
    | some o =>
      obtain ⟨oc, od, dt, osl⟩ := o
      rw [q] at h
      cases oc with
      | type c =>
        cases dt with
        | seq its n =>
          obtain ⟨h1, h2⟩ := He.ba (show (decide (c = "tuple") && (decide (its.size ≤ sizeLine) && He.relAll (is.map V.int) its.toList)) = true from h)
          obtain ⟨h3, h4⟩ := He.ba h2
          exact ⟨.ref t, rfl, fun Hd ρ => dn_tup.mpr ⟨t, is.map V.int, rfl, .inr ⟨_, its, n, q, congrArg Value.type (of_decide_eq_true h1), rfl, of_decide_eq_true h3, He.relAll_ok h4⟩, dnl_ints is⟩⟩
        | _ => cases h
      | _ => cases dt <;> cases h
  | _ => cases h
theorem getF_tab : ∀ (kvs : List (Str × List Int)) (z : Str) (d : D), getF (kvs.map (·.1)) (kvs.map fun q => .tup (q.2.map .int)) z = some d → ∃ q ∈ kvs, q.1 = z ∧ d = .tup (q.2.map .int)
  | [], z, d, h => by cases h
  | q :: r, z, d, h => by
    rw [List.map_cons, List.map_cons, getF] at h
    by_cases hz : q.1 = z
    · rw [if_pos hz] at h
      exact ⟨q, List.mem_cons_self, hz, (Option.some.inj h).symm⟩
    · rw [if_neg hz] at h
      obtain ⟨q', m, e1, e2⟩ := getF_tab r z d h
      exact ⟨q', List.mem_cons_of_mem _ m, e1, e2⟩
theorem tabI_ok {K : PySem.W.Frag} {a : Addr} {kvs : List (Str × List Int)} (h : tabI K a kvs = true) (z : Str) (d : D) (e : getF (kvs.map (·.1)) (kvs.map fun q => .tup (q.2.map .int)) z = some d) :
    ∃ u v, PySem.W.nsIn K a z = some (some u) ∧ RelV v u ∧ ∀ Hd ρ, Dn K Hd ρ d v := by
  obtain ⟨q, m, rfl, rfl⟩ := getF_tab kvs z d e
  have h2 := List.all_eq_true.mp (He.ba h).2 q m
  cases en : PySem.W.nsIn K a q.1 with
  | none => rw [en] at h2; cases h2
  | some r =>
    rw [en] at h2
    cases r with
    | none => cases h2
    | some u =>
      obtain ⟨v, h3, h4⟩ := tup_ok h2
      exact ⟨u, v, rfl, h3, h4⟩
/-! ### the law's own call, over facts -/
theorem lawGE {P : Program} {w : World} {K : PySem.W.Frag} {mg mb : Str → Option Value} {CX : CXT} {k : Nat} {fa a : Addr} {x : Str} {sp : Sp} {s : Shared} {us : List Value} {ns : List Int}
    (kin : K.In s.heap) (hns : s.heap.Ns mainGlobals mg) (hb : s.heap.Ns builtinsNs mb) (hbb : ∀ x : Str, x ≠ "__name__" → mb x = bootBuiltins x) (lim : s.heap.NoLimit) (gens : s.gens = #[])
    (ha : s.heap.get? a = some { cls := .type "list", data := .seq us.toArray }) (hi : IntsAre us ns) (hl : ns.length ≤ sizeLine) (hr : Room k callerA)
    (F : ∀ base : Heap, K.In base → base.Ns mainGlobals mg → ∃ fd, FnG P w K mg base CX k fa fd [x] sp ∧ Binds K fd [x] [])
    (start : ∀ H : Hp, Only H → SqL K H a (ns.map V.int) → sp [.ref a] H (fun v _ => v = .bl true) fun _ _ _ => False)
    (quiet : ∀ H e s', CX [] H s (fun _ _ _ => False) e s' → False) :
    codeAny (model P w) callerA (.call (.ref fa) ⟨[.ref a], []⟩) (fun r s' => r = .ok (.ret (.bool true)) ∧ OldK s.heap s'.heap ∧ s'.os = s.os ∧ AllBare s'.gens) s := by
  have rv := vals_ints hi
  have n := hi.length
  have main : ∀ H : Hp, Only H → SqL K H a (ns.map V.int) → HOk P w H s.heap → (∀ b, H b ≠ none → b = a) → (H a ≠ none → K.lookup a = none) →
      codeAny (model P w) callerA (.call (.ref fa) ⟨[.ref a], []⟩) (fun r s' => r = .ok (.ret (.bool true)) ∧ OldK s.heap s'.heap ∧ s'.os = s.os ∧ AllBare s'.gens) s := by
    intro H only sq ok one ink
    have dict0 : ∀ {b : Addr} {o : Obj} {es : Array DictEntry} {ep : Nat}, s.heap.get? b = some o → o.data = .dict es ep → H b = none := fun {b o es ep} z d => by
      apply Classical.byContradiction
      intro nz
      obtain rfl := one b nz
      rw [ha] at z
      cases z
      exact nomatch d
    have ns0 : ∀ {b : Addr} {m : Str → Option Value}, s.heap.Ns b m → (hidT s.heap H).Ns b m := fun ⟨o, es, ep, z, d, r⟩ => ⟨o, es, ep, hidT_get z (dict0 z d), d, r⟩
    have kb : K.In (hidT s.heap H) := fun b o z => hidT_get (kin b o z) (Classical.byContradiction fun nz => by
      obtain rfl := one b nz
      rw [ink nz] at z
      cases z)
    obtain ⟨mc, l1, l2⟩ := lim
    have env0 : Env0 P w K mg (hidT s.heap H) callerA [] s H :=
      { frames := rfl, mod := ⟨kb, ns0 hns, ⟨mb, ns0 hb, hbb⟩, ⟨mc, ns0 l1, l2⟩⟩, bs := fun b o z => of_hidT z, bsz := Nat.le_of_eq (hidT_size _ _), funs := trivial, frf := fun b z => (List.not_mem_nil z).elim, hok := ok, bare := .of_eq gens }
    obtain ⟨fd, G, B⟩ := F _ kb (ns0 hns)
    have bd : BindsTo s fd ⟨[.ref a], []⟩ ([x].zip [.ref a]) := by
      have := B s [.ref a] kin rfl
      exact this
    refine codeAny_mono (G.go (us := [.ref a]) (vs := [.ref a]) hr rfl env0 bd (.cons rfl .nil) (start H only sq)) fun r s' z => ?_
    match r, z with
    | .error e, z => exact (quiet H e s' z).elim
    | .ok (.ret u), z =>
      obtain ⟨v, H', os, bare, un, ok', ru, q⟩ := z
      cases (show v = .bl true from q)
      cases (show u = Value.bool true from ru)
      refine ⟨rfl, OldK.of_keep fun b o z => ?_, os, bare⟩
      rcases only b with y | ⟨ob, xs, y⟩
      · exact un.keep b o z y (fun y => (List.not_mem_nil y).elim) (fun y => (List.not_mem_nil y).elim)
      · obtain ⟨e1, _⟩ := ok b _ y
        obtain ⟨e2, _⟩ := ok' b _ (un.frzs b ob _ y)
        exact e2.trans (e1.symm.trans z)
  cases hk : K.lookup a with
  | some o =>
    have z := kin a o hk
    rw [ha] at z
    cases z
    exact main (fun _ => none) (fun _ => .inl rfl) (.inr ⟨_, us.toArray, _, hk, rfl, rfl, rfl, by rw [List.size_toArray, n]; exact hl, by simpa using rv⟩) (fun _ _ z => nomatch (show (none : Option HO) = some _ from z)) (fun _ z => (z rfl).elim) (fun z => (z rfl).elim)
  | none =>
    have at_ : ∀ {b : Addr} {u : HO}, (if b = a then some (HO.frz { cls := .type "list", data := .seq us.toArray } (.lst (ns.map V.int))) else none) = some u → b = a ∧ u = HO.frz { cls := .type "list", data := .seq us.toArray } (.lst (ns.map V.int)) := fun {b u} z => by
      by_cases y : b = a
      · rw [if_pos y] at z; cases z; exact ⟨y, rfl⟩
      · rw [if_neg y] at z; cases z
    refine main (fun b => if b = a then some (.frz { cls := .type "list", data := .seq us.toArray } (.lst (ns.map V.int))) else none) (fun b => ?_) (.inl (.inr ⟨_, if_pos rfl⟩)) (fun b u z => ?_) (fun b z => ?_) fun _ => hk
    · by_cases y : b = a
      · exact .inr ⟨_, _, if_pos y⟩
      · exact .inl (if_neg y)
    · obtain ⟨rfl, rfl⟩ := at_ z
      exact ⟨ha, by rw [List.length_map]; exact hl, us, _, rv, ha⟩
    · exact Classical.byContradiction fun y => z (if_neg y)
theorem walkGE {l : PySem.W.OpenLaw} {n k : Nat} {q : Program} {loose : List Str} {XP : (Str → Option Value) → Heap → Prop} {YP : World → Heap → Prop} {d : DefRec} {CX : World → CXT} {x : Str}
    (hn : l.most = some n) (hn2 : n ≤ sizeLine) (hdf : d.params.defaults = []) (hr : Room k callerA)
    (F : ∀ (w : World) (mg : Str → Option Value) (fa : Addr) (h : Heap), YP w h → h.Ns mainGlobals mg → mg d.name = some (.ref fa) →
      ∃ (K : PySem.W.Frag) (sp : Sp), K.In h ∧
        (∀ (H : Hp) (a : Addr) (ns : List Int), ns.length ≤ n → Only H → SqL K H a (ns.map V.int) → sp [.ref a] H (fun v _ => v = .bl true) fun _ _ _ => False) ∧
        ∀ base : Heap, K.In base → base.Ns mainGlobals mg → ∃ fd, FnG l.prog w K mg base (CX w) k fa fd [x] sp ∧ Binds K fd [x] [])
    (quiet : ∀ (w : World) (H : Hp) (s : Shared) (e : Value) (s' : Shared), CX w [] H s (fun _ _ _ => False) e s' → False) : PySem.W.WalkO q loose XP YP l.row.toRowW d [] (fun f vs => PySem.call f vs) := by
  refine Att.attach_call hn hdf ?_
  intro w _ s mg mb fa o pm cd doc a vs ns G Y _ _ _ hmg hobj hints hlen hg
  obtain ⟨K, sp, KX, hsp, hF⟩ := F w mg fa _ Y G.T.g hmg
  exact lawGE KX G.T.g G.T.b G.T.builtins G.T.nolimit hg hobj hints (Nat.le_trans hlen hn2) hr hF (fun H hO hS => hsp H a ns hlen hO hS) fun H e s' => quiet w H s e s'
theorem quietX {P : Program} {w : World} {H : Hp} {s : Shared} {e : Value} {s' : Shared} (h : L2.CX P w [] H s (fun _ _ _ => False) e s') : False := by
  obtain ⟨_, _, _, _, _, _, _, _, _, _, _, _, z⟩ := h
  exact z
/-- the law's promise, where the machine says true -/
theorem start_ok {K : PySem.W.Frag} {φ : Phi} {i : Nat} {H : Hp} {a : Addr} {ns : List Int} (e : φ i [.scr (ns.map .int)] [] = some (.bl true, [])) (h : SqL K H a (ns.map V.int)) : spI K φ i 1 [.ref a] H (fun v _ => v = .bl true) fun _ _ _ => False := by
  refine ⟨rfl, H, [], [], [.scr (ns.map .int)], .bl true, [], ⟨Same.refl H, rfl, List.nodup_nil, fun n a c h => by simp at h⟩, DnL.cons (dn_scr.mpr ⟨a, ns.map V.int, rfl, h, dnl_ints ns⟩) DnL.nil, e, fun Hd' ρ' H' v _ _ r => ?_⟩
  exact dn_bl.mp r
end Mc
set_option Elab.async false
set_option linter.all false
set_option maxRecDepth 100000
set_option maxHeartbeats 0
namespace Mc
open PySem PySem.Spec PyProof.Rows L2
def dd0 : He.DefD := ⟨("is_sign", none), "is_sign", "is_sign", defArgs (topS 1), defBody (topS 1), defScope (topS 1), [], []⟩
def dd1 : He.DefD := ⟨("is_text", none), "is_text", "is_text", defArgs (topS 2), defBody (topS 2), defScope (topS 2), [], []⟩
def dd2 : He.DefD := ⟨("is_text_up_to", none), "is_text_up_to", "is_text_up_to", defArgs (topS 3), defBody (topS 3), defScope (topS 3), [], []⟩
def dd3 : He.DefD := ⟨("check_stream", none), "check_stream", "check_stream", defArgs (topS 12), defBody (topS 12), defScope (topS 12), [], []⟩
def dd4 : He.DefD := ⟨("is_term", none), "is_term", "is_term", defArgs (topS 18), defBody (topS 18), defScope (topS 18), [], []⟩
def dd5 : He.DefD := ⟨("check_term", none), "check_term", "check_term", defArgs (topS 19), defBody (topS 19), defScope (topS 19), [], []⟩
def dd6 : He.DefD := ⟨("word_of", none), "word_of", "word_of", defArgs (topS 20), defBody (topS 20), defScope (topS 20), [], []⟩
def dd7 : He.DefD := ⟨("parts_of", none), "parts_of", "parts_of", defArgs (topS 21), defBody (topS 21), defScope (topS 21), [], []⟩
def dd8 : He.DefD := ⟨("flow_of", none), "flow_of", "flow_of", defArgs (topS 22), defBody (topS 22), defScope (topS 22), [], []⟩
def dd9 : He.DefD := ⟨("_is_node", none), "_is_node", "_is_node", defArgs (topS 23), defBody (topS 23), defScope (topS 23), [], []⟩
def dd10 : He.DefD := ⟨("_flow_at", none), "_flow_at", "_flow_at", defArgs (topS 24), defBody (topS 24), defScope (topS 24), [], []⟩
def dd11 : He.DefD := ⟨("_given", none), "_given", "_given", defArgs (topS 25), defBody (topS 25), defScope (topS 25), [], []⟩
def dd12 : He.DefD := ⟨("_given_of_one", none), "_given_of_one", "_given_of_one", defArgs (topS 26), defBody (topS 26), defScope (topS 26), [], []⟩
def dd13 : He.DefD := ⟨("_counted", none), "_counted", "_counted", defArgs (topS 27), defBody (topS 27), defScope (topS 27), [], []⟩
def dd14 : He.DefD := ⟨("_unlike", none), "_unlike", "_unlike", defArgs (topS 28), defBody (topS 28), defScope (topS 28), [], []⟩
def dd15 : He.DefD := ⟨("_law_pot", none), "_law_pot", "_law_pot", defArgs (topS 30), defBody (topS 30), defScope (topS 30), [], []⟩
def dd16 : He.DefD := ⟨("_law_draw", none), "_law_draw", "_law_draw", defArgs (topS 31), defBody (topS 31), defScope (topS 31), [], []⟩
def dd17 : He.DefD := ⟨("_law_pick", none), "_law_pick", "_law_pick", defArgs (topS 32), defBody (topS 32), defScope (topS 32), [], []⟩
def dd18 : He.DefD := ⟨("_law_term", none), "_law_term", "_law_term", defArgs (topS 33), defBody (topS 33), defScope (topS 33), [], []⟩
def dd19 : He.DefD := ⟨("_law_single", none), "_law_single", "_law_single", defArgs (topS 34), defBody (topS 34), defScope (topS 34), [], []⟩
def dd20 : He.DefD := ⟨("_law_flow", none), "_law_flow", "_law_flow", defArgs (topS 35), defBody (topS 35), defScope (topS 35), [], []⟩
def dd21 : He.DefD := ⟨("_law_stream", none), "_law_stream", "_law_stream", defArgs (topS 36), defBody (topS 36), defScope (topS 36), [], []⟩
def dd22 : He.DefD := ⟨("_law_nodes", none), "_law_nodes", "_law_nodes", defArgs (topS 37), defBody (topS 37), defScope (topS 37), [], []⟩
def dd23 : He.DefD := ⟨("_law_around", none), "_law_around", "_law_around", defArgs (topS 38), defBody (topS 38), defScope (topS 38), [], []⟩
def dd24 : He.DefD := ⟨("_law_begun_right", none), "_law_begun_right", "_law_begun_right", defArgs (topS 39), defBody (topS 39), defScope (topS 39), [], []⟩
def dd25 : He.DefD := ⟨("_law_long_right", none), "_law_long_right", "_law_long_right", defArgs (topS 40), defBody (topS 40), defScope (topS 40), [], []⟩
def dd26 : He.DefD := ⟨("_law_right", none), "_law_right", "_law_right", defArgs (topS 41), defBody (topS 41), defScope (topS 41), [], []⟩
def dd27 : He.DefD := ⟨("law", none), "law", "law", defArgs (topS 42), defBody (topS 42), defScope (topS 42), [], []⟩
def fnL : List He.DefD := [dd0, dd1, dd2, dd3, dd4, dd5, dd6, dd7, dd8, dd9, dd10, dd11, dd12, dd13, dd14, dd15, dd16, dd17, dd18, dd19, dd20, dd21, dd22, dd23, dd24, dd25, dd26, dd27]
def faL : List He.Fa := [.glo "is_sign", .glo "is_text", .glo "is_text_up_to", .glo "check_stream", .glo "is_term", .glo "check_term", .glo "word_of", .glo "parts_of", .glo "flow_of", .glo "_is_node", .glo "_flow_at", .glo "_given", .glo "_given_of_one", .glo "_counted", .glo "_unlike", .glo "_law_pot", .glo "_law_draw", .glo "_law_pick", .glo "_law_term", .glo "_law_single", .glo "_law_flow", .glo "_law_stream", .glo "_law_nodes", .glo "_law_around", .glo "_law_begun_right", .glo "_law_long_right", .glo "_law_right", .glo "law", .free "len", .free "abs", .free "max", .free "min", .free "int", .free "divmod", .free "tuple", .free "all", .free "any", .free "sum", .free "repr", .free "isinstance", .free "str", .free "list", .free "range", .free "enumerate", .free "zip", .free "bool", .free "dict", .int "MOST_SIGNS_checks" 1000, .int "_MOST_NODES" 9, .int "MOST_SIGNS_terms" 8000, .int "_TABLE_SIGNS" 4, .glo "_FORMS"]
def tsL : List He.Tab := [((fun K => He.ga K "_FORMS"), ["not", "late", "twice", "half", "change", "count", "by", "keep", "then"])]
def exB (K : PySem.W.Frag) : Bool := tabI K (He.ga K "_FORMS") [("not", [0, 1]), ("late", [1, 1]), ("twice", [0, 1]), ("half", [0, 1]), ("change", [0, 1]), ("count", [0, 1]), ("by", [1, 2]), ("keep", [0, 2]), ("then", [0, 2])]
def hookX : PySem.W.Hook where
  α := He.AlT × Bool
  obs := fun s => (He.obsTG 4 faL fnL tsL s.heap.get?, exB (He.frG s.heap.get? (He.asD s.heap.get? 4)))
  val := fun w => (He.valT fnL tsL w, true)
  says := fun w h => ∃ K : PySem.W.Frag, K.In h ∧ He.SaysT faL fnL tsL w K ∧ exB K = true
  of := fun _ _ e => ⟨_, He.frG_in, congrArg (fun z : He.AlT × Bool => z.1) e, congrArg (fun z : He.AlT × Bool => z.2) e⟩
  keeps := fun _ _ _ ⟨K, hK, c⟩ k => ⟨K, PySem.W.Frag.In.keeps hK k, c⟩
abbrev RR : PySem.W.OpenRow := PySem.W.OpenLaw.row PySem.Challenge.rw_flowyard_k21_whole_flows_of_terms
def obX (s : PySem.W.SharedT) : He.AlT × Bool := (He.obsTG 4 faL fnL tsL (HandSHeadRun.getT s), exB (He.frG (HandSHeadRun.getT s) (He.asD (HandSHeadRun.getT s) 4)))
theorem obX_eq (s : PySem.W.SharedT) : obX s = hookX.obs s.abs := by
  have e : HandSHeadRun.getT s = s.abs.heap.get? := funext (HandSHeadRun.getT_eq s)
  unfold obX
  rw [e]; rfl
def looseA : List PySem.Str := ["is_sign", "is_text", "is_text_up_to", "FlowError", "InvalidStream", "InvalidTerm", "LimitError", "TooMany", "MOST_SIGNS_checks", "check_stream", "_MOST_NODES", "MOST_SIGNS_terms", "_TABLE_SIGNS", "_FORMS", "is_term", "check_term", "word_of", "parts_of", "flow_of", "_is_node", "_flow_at", "_given", "_given_of_one", "_counted", "_unlike", "_law_pot", "_law_draw", "_law_pick", "_law_term", "_law_single"]
def looseB : List PySem.Str := ["_law_flow", "_law_stream", "_law_nodes", "_law_around", "_law_begun_right", "_law_long_right", "_law_right"]
abbrev qV : Program := PySem.W.view RR.prog [42]
theorem runX (w : World) : HandSHeadRun.RunEq RR qV hookX obX 4000 (looseA ++ looseB) w := by
  refine PySem.W.byRow2 "special-get-raises" (P := fun w => HandSHeadRun.RunEq RR qV hookX obX 4000 (looseA ++ looseB) w) (fun w => ?_) (fun w => ?_) w
  · intro os
    kernel_rfl
  · intro os
    kernel_rfl
end Mc
set_option Elab.async false
set_option linter.all false
set_option maxRecDepth 100000
set_option maxHeartbeats 1000000
namespace Mc
open PySem PySem.Spec PyProof.Rows L2

/-! ### texts of signs -/
def cp (b : Bool) : Nat := if b = true then 49 else 48
def bs (l : List Bool) : Str := ⟨(l.map cp).toArray⟩
def sg (b : Bool) : Str := ⟨#[cp b]⟩
theorem cp_inj : ∀ {a b : Bool}, cp a = cp b → a = b := by decide
theorem bs_len (l : List Bool) : (bs l).length = l.length := by simp [bs, Str.length]
theorem sg_len (b : Bool) : (sg b).length = 1 := rfl
theorem sg_bs (b : Bool) : sg b = bs [b] := rfl
theorem bs_inj {a b : List Bool} (h : bs a = bs b) : a = b := by
  have h1 : (a.map cp).toArray = (b.map cp).toArray := congrArg Str.cps h
  have h2 : a.map cp = b.map cp := by simpa using congrArg Array.toList h1
  exact List.map_inj_right (fun _ _ => cp_inj) |>.mp h2
theorem bs_app (a b : List Bool) : bs a ++ bs b = bs (a ++ b) := by
  show Str.append (bs a) (bs b) = _
  simp [bs, Str.append]
theorem sg_eq (a b : Bool) : (sg a == sg b) = (a == b) := by cases a <;> cases b <;> rfl
theorem sg1 (b : Bool) : (sg b == Str.ofString "1") = b := by cases b <;> decide +kernel
theorem sg0 (b : Bool) : (sg b == Str.ofString "0") = !b := by cases b <;> decide +kernel
theorem s1 : Str.ofString "1" = sg true := by decide +kernel
theorem s0 : Str.ofString "0" = sg false := by decide +kernel
theorem se : Str.ofString "" = bs [] := by decide +kernel
theorem bs_chrs (l : List Bool) : chrs (bs l) = l.map fun b => .str (sg b) := by
  simp [chrs, bs, sg, List.map_map, Function.comp_def]
theorem bs_chrs' (l : List Bool) : ((bs l).cps.toList.map fun c => D.str ⟨#[c]⟩) = l.map fun b => .str (sg b) := bs_chrs l
theorem sg_int (b : Bool) : PySem.intText? (sg b) = some (if b = true then 1 else 0) := by cases b <;> decide +kernel
theorem bs_zip (a b : List Bool) : zipD (bs a) (bs b) = List.zipWith (fun x y => .tup [.str (sg x), .str (sg y)]) a b := by
  unfold zipD bs
  simp [List.zipWith_map, sg]
theorem glued_nil (ws : List (List Bool)) : Txt.join (bs []) (ws.map bs) = bs ws.flatten := by
  have key : ∀ (ws : List (List Bool)) (a : Array Nat), (ws.map bs).foldl (fun acc p => acc ++ (bs []).cps ++ p.cps) a = a ++ (bs ws.flatten).cps := by
    intro ws
    induction ws with
    | nil => intro a; simp [bs]
    | cons w r ih =>
      intro a
      rw [List.map_cons, List.foldl_cons, ih]
      simp [bs, List.map_append]
  unfold Txt.join Builtin.Str.glued
  cases ws with
  | nil => simp [bs, Str.empty]
  | cons w r =>
    rw [List.map_cons]
    show (⟨(r.map bs).foldl _ (bs w).cps⟩ : Str) = _
    rw [key]
    simp [bs, List.map_append]
theorem join_sg (l : List Bool) : Txt.join (Str.ofString "") (l.map sg) = bs l := by
  have e : l.map sg = (l.map fun b => [b]).map bs := by rw [List.map_map]; rfl
  rw [se, e, glued_nil]
  congr 1
  induction l with
  | nil => rfl
  | cons a r ih => simpa using ih (by rw [List.map_map]; rfl)
theorem bs_cut (l : List Bool) (k : Nat) : cutS (bs l) none (some (k : Int)) = bs (l.take k) := by
  unfold cutS
  rw [HT.sIx_none, HT.sIx_nat]
  have e : (bs l).cps.toList = l.map cp := by simp [bs]
  rw [e]
  simp only [List.drop_zero, Nat.sub_zero]
  rw [← List.map_take]
  have h : (bs l).length = l.length := bs_len l
  rw [h]
  unfold bs
  congr 3
  rcases Nat.le_total k l.length with q | q
  · rw [Nat.min_eq_left q]
  · rw [Nat.min_eq_right q, List.take_length, List.take_of_length_le q]
theorem bs_at (l : List Bool) (i : Nat) (h : i < l.length) : atI (bs l).cps.toList (i : Int) = some (cp l[i]) := by
  have e : (bs l).cps.toList = l.map cp := by simp [bs]
  rw [e]
  unfold atI ixN
  have h1 : (0 : Int) ≤ (i : Int) := Int.natCast_nonneg i
  have h2 : (i : Int) < ((l.map cp).length : Int) := by rw [List.length_map]; exact_mod_cast h
  rw [if_pos h1, if_pos h2]
  simp [h]
/-! strip -/
theorem tw_all {p : Nat → Bool} : ∀ (l : List Nat), (∀ x ∈ l, p x = true) → (l.takeWhile p).length = l.length
  | [], _ => rfl
  | a :: r, h => by
    rw [List.takeWhile_cons, if_pos (h a List.mem_cons_self), List.length_cons, tw_all r fun x hx => h x (List.mem_cons_of_mem _ hx), List.length_cons]
theorem goes_bs {l : List Bool} : ∀ x ∈ l.map cp, (Str.ofString "01").cps.contains x = true := by
  intro x hx
  obtain ⟨b, _, rfl⟩ := List.mem_map.mp hx
  cases b <;> decide +kernel
theorem strip_bs (l : List Bool) : Txt.stripChars (bs l) (Str.ofString "01") = bs [] := by
  have e : (bs l).cps.toList = l.map cp := by simp [bs]
  have lo : PySem.stripLo (Str.ofString "01").cps.contains true (bs l) = l.length := by
    unfold PySem.stripLo
    rw [if_pos rfl, e, tw_all _ goes_bs, List.length_map]
  have hi : PySem.stripHi (Str.ofString "01").cps.contains true (bs l) l.length = l.length := by
    unfold PySem.stripHi
    rw [if_pos rfl, e, List.drop_of_length_le (by rw [List.length_map]; exact Nat.le_refl _), bs_len]
    simp
  unfold Txt.stripChars Txt.stripBy PySem.stripSame PySem.stripped
  rw [lo, hi, bs_len]
  cases l with
  | nil => rfl
  | cons x r =>
    rw [if_neg (by simp)]
    unfold Builtin.Str.strSub bs
    simp
theorem starts_bs (a b : List Bool) : Txt.startswith (bs a) (bs b) = decide (b <+: a) := by
  unfold Txt.startswith Builtin.Str.subAt
  rw [bs_len, bs_len, Nat.zero_add]
  have e : (bs a).cps.extract 0 b.length = ((a.take b.length).map cp).toArray := by
    apply Array.ext'
    simp [bs, List.map_take]
  rw [e]
  by_cases h : b <+: a
  · have h1 : b.length ≤ a.length := h.length_le
    have h2 : a.take b.length = b := (List.prefix_iff_eq_take.mp h).symm
    rw [h2]
    simp [h, h1, bs]
  · rw [decide_eq_false h]
    rw [Bool.and_eq_false_iff]
    by_cases h1 : b.length ≤ a.length
    · right
      rw [beq_eq_false_iff_ne]
      intro c
      apply h
      have c2 : (a.take b.length).map cp = b.map cp := by simpa [bs] using congrArg Array.toList c
      have c3 := List.map_inj_right (fun _ _ => cp_inj) |>.mp c2
      exact List.prefix_iff_eq_take.mpr c3.symm
    · left; exact decide_eq_false h1
/-! [1::2] -/
def odds : List Bool → List Bool
  | _ :: b :: r => b :: odds r
  | _ => []
theorem odds_get : ∀ (l : List Bool) (k : Nat), (odds l)[k]? = l[1 + 2 * k]?
  | [], k => by simp [odds]
  | [a], k => by
    simp only [odds]
    rw [List.getElem?_nil, List.getElem?_eq_none (by simp)]
  | a :: b :: r, 0 => by simp [odds]
  | a :: b :: r, k + 1 => by
    rw [odds, List.getElem?_cons_succ, odds_get r k]
    have : 1 + 2 * (k + 1) = (1 + 2 * k) + 2 := by omega
    rw [this]
    simp
theorem odds_len : ∀ l : List Bool, (odds l).length = l.length / 2
  | [] => rfl
  | [a] => by simp [odds]
  | a :: b :: r => by
    rw [odds, List.length_cons, odds_len r, List.length_cons, List.length_cons]; omega
theorem fm_some {α β : Type} {f : α → Option β} {g : α → β} : ∀ {l : List α}, (∀ x ∈ l, f x = some (g x)) → l.filterMap f = l.map g
  | [], _ => rfl
  | a :: r, h => by
    rw [List.filterMap_cons, h a List.mem_cons_self, List.map_cons, fm_some fun x hx => h x (List.mem_cons_of_mem _ hx)]
theorem stp_bs (l : List Bool) : stpS (bs l) 1 2 = bs (odds l) := by
  unfold stpS Txt.sliceBy
  have h0 : ((((some ((2 : Int), (0 : Tok))).map (·.1)).getD 1 == 1) && (slicePicked (bs l) (some (1, 0)) none (some (2, 0))).length == (bs l).length) = false := rfl
  rw [h0]
  simp only [Bool.false_eq_true, if_false]
  have hp : slicePicked (bs l) (some (1, 0)) none (some (2, 0)) = (List.range (l.length / 2)).map fun k => 1 + 2 * k := by
    unfold slicePicked Builtin.Str.strSliceIndices sliceRange
    simp only [Option.map_some, Option.map_none, Option.getD_some]
    rw [bs_len]
    have c2 : ((2 : Int) > 0) = True := by simp
    simp only [c2, if_true]
    have c1 : ¬ (1 : Int) < 0 := by decide
    rw [if_neg c1]
    by_cases h : 1 < l.length
    · have e1 : max (0 : Int) (min 1 (l.length : Int)) = 1 := by omega
      rw [e1, if_pos (by exact_mod_cast h)]
      have e2 : (((l.length : Int) - 1 + 2 - 1) / 2).toNat = l.length / 2 := by omega
      rw [e2]
      apply List.map_congr_left
      intro k _
      omega
    · have e1 : ¬ (max (0 : Int) (min 1 (l.length : Int)) < (l.length : Int)) := by omega
      rw [if_neg e1]
      have e2 : l.length / 2 = 0 := by omega
      rw [e2]; rfl
  rw [hp]
  unfold bs
  congr 2
  apply List.ext_getElem?
  intro i
  rw [List.filterMap_map]
  have e3 : (List.range (l.length / 2)).filterMap ((fun x => ((l.map cp).toArray)[x]?) ∘ fun k => 1 + 2 * k) = (odds l).map cp := by
    apply List.ext_getElem?
    intro j
    have e4 : (List.range (l.length / 2)).filterMap ((fun x => ((l.map cp).toArray)[x]?) ∘ fun k => 1 + 2 * k) = (List.range (l.length / 2)).map fun k => cp (l.getD (1 + 2 * k) false) := by
      refine fm_some fun k hk => ?_
      have hk' : 1 + 2 * k < l.length := by have := List.mem_range.mp hk; omega
      simp [hk']
    rw [e4, List.getElem?_map, List.getElem?_map, odds_get]
    by_cases hj : j < l.length / 2
    · rw [List.getElem?_range hj]
      have hk' : 1 + 2 * j < l.length := by omega
      simp [hk']
    · rw [List.getElem?_eq_none (by simp; omega), List.getElem?_eq_none (by omega)]; rfl
  rw [e3]
end Mc
set_option Elab.async false
set_option linter.all false
set_option maxRecDepth 100000
set_option maxHeartbeats 1000000
namespace Mc
open PySem PySem.Spec PyProof.Rows L2
inductive U where | nt | tw | hf | ch | ct
inductive Tm where
  | inn | un (u : U) (t : Tm) | late (c : Bool) (t : Tm) | bt (a b c d : Bool) (t u : Tm) | kp (t u : Tm) | th (t u : Tm)
def U.w : U → Str | .nt => "not" | .tw => "twice" | .hf => "half" | .ch => "change" | .ct => "count"
def Tm.d : Tm → D
  | .inn => .str "in"
  | .un u t => .tup [.str u.w, t.d]
  | .late c t => .tup [.str "late", .str (sg c), t.d]
  | .bt a b c d t u => .tup [.str "by", .str (bs [a, b, c, d]), t.d, u.d]
  | .kp t u => .tup [.str "keep", t.d, u.d]
  | .th t u => .tup [.str "then", t.d, u.d]
def Tm.sz : Tm → Nat
  | .inn => 1 | .un _ t => t.sz + 1 | .late _ t => t.sz + 1 | .bt _ _ _ _ t u => t.sz + u.sz + 1 | .kp t u => t.sz + u.sz + 1 | .th t u => t.sz + u.sz + 1
theorem Tm.sz_pos : ∀ t : Tm, 1 ≤ t.sz := by intro t; cases t <;> simp [Tm.sz]
def chg : Bool → List Bool → List Bool
  | _, [] => []
  | p, x :: r => (p != x) :: chg x r
def cnt : Bool → List Bool → List Bool
  | _, [] => []
  | p, x :: r => (p != x) :: cnt (p != x) r
def keepL : List Bool → List Bool → List Bool
  | x :: xs, y :: ys => if y = true then x :: keepL xs ys else keepL xs ys
  | _, _ => []
def pk4 (a b c d x y : Bool) : Bool := if x = true then (if y = true then d else c) else (if y = true then b else a)
def twL (l : List Bool) : List Bool := l.flatMap fun b => [b, b]
def U.f : U → List Bool → List Bool
  | .nt, l => l.map not | .tw, l => twL l | .hf, l => odds l | .ch, l => chg false l | .ct, l => cnt false l
def lateL (c : Bool) (l : List Bool) : List Bool := (c :: l).take l.length
def fl : Tm → List Bool → List Bool
  | .inn, s => s
  | .un u t, s => u.f (fl t s)
  | .late c t, s => lateL c (fl t s)
  | .bt a b c d t u, s => List.zipWith (pk4 a b c d) (fl t s) (fl u s)
  | .kp t u, s => keepL (fl t s) (fl u s)
  | .th t u, s => fl u (fl t s)
theorem chg_len : ∀ (l : List Bool) (p : Bool), (chg p l).length = l.length
  | [], _ => rfl
  | x :: r, p => by rw [chg, List.length_cons, List.length_cons, chg_len r]
theorem cnt_len : ∀ (l : List Bool) (p : Bool), (cnt p l).length = l.length
  | [], _ => rfl
  | x :: r, p => by rw [cnt, List.length_cons, List.length_cons, cnt_len r]
theorem keepL_len : ∀ (a b : List Bool), (keepL a b).length ≤ a.length
  | [], _ => by simp [keepL]
  | x :: xs, [] => by simp [keepL]
  | x :: xs, y :: ys => by
    have h := keepL_len xs ys
    unfold keepL
    split
    · simpa using h
    · exact Nat.le_trans h (by simp)
theorem twL_len (l : List Bool) : (twL l).length = 2 * l.length := by
  unfold twL
  induction l with
  | nil => rfl
  | cons a r ih => simp only [List.flatMap_cons, List.length_append, ih, List.length_cons, List.length_nil]; omega
theorem U.len (u : U) (l : List Bool) : (u.f l).length ≤ 2 * l.length := by
  cases u <;> simp only [U.f, List.length_map, twL_len, odds_len, chg_len, cnt_len] <;> omega
theorem lateL_len (c : Bool) (l : List Bool) : (lateL c l).length = l.length := by
  unfold lateL; rw [List.length_take, List.length_cons]; omega
theorem fl_len : ∀ (t : Tm) (s : List Bool), (fl t s).length ≤ s.length * 2 ^ (t.sz - 1)
  | .inn, s => by simp [fl, Tm.sz]
  | .un u t, s => by
    have h := fl_len t s
    have h2 := u.len (fl t s)
    have p := t.sz_pos
    have e : t.sz + 1 - 1 = (t.sz - 1) + 1 := by omega
    simp only [fl, Tm.sz]
    rw [e, Nat.pow_succ, ← Nat.mul_assoc]
    omega
  | .late c t, s => by
    have h := fl_len t s
    have p := t.sz_pos
    have e : t.sz + 1 - 1 = (t.sz - 1) + 1 := by omega
    simp only [fl, Tm.sz]
    rw [lateL_len, e, Nat.pow_succ, ← Nat.mul_assoc]
    omega
  | .bt a b c d t u, s => by
    have h := fl_len t s
    have p := t.sz_pos
    simp only [fl, Tm.sz]
    rw [List.length_zipWith]
    refine Nat.le_trans (Nat.min_le_left _ _) (Nat.le_trans h (Nat.mul_le_mul_left _ (Nat.pow_le_pow_right (by omega) (by omega))))
  | .kp t u, s => by
    have h := fl_len t s
    simp only [fl, Tm.sz]
    refine Nat.le_trans (keepL_len _ _) (Nat.le_trans h (Nat.mul_le_mul_left _ (Nat.pow_le_pow_right (by omega) (by omega))))
  | .th t u, s => by
    have h := fl_len t s
    have h2 := fl_len u (fl t s)
    have p := t.sz_pos
    have p2 := u.sz_pos
    simp only [fl, Tm.sz]
    refine Nat.le_trans h2 (Nat.le_trans (Nat.mul_le_mul_right _ h) ?_)
    rw [Nat.mul_assoc, ← Nat.pow_add]
    exact Nat.mul_le_mul_left _ (Nat.pow_le_pow_right (by omega) (by omega))
/-! beginnings -/
theorem pre_chg : ∀ {a b : List Bool} (p : Bool), a <+: b → chg p a <+: chg p b
  | [], _, _, _ => by simp [chg]
  | x :: r, [], _, h => by simp at h
  | x :: r, y :: q, p, h => by
    obtain ⟨rfl, h2⟩ := List.cons_prefix_cons.mp h
    rw [chg, chg]
    exact List.cons_prefix_cons.mpr ⟨rfl, pre_chg _ h2⟩
theorem pre_cnt : ∀ {a b : List Bool} (p : Bool), a <+: b → cnt p a <+: cnt p b
  | [], _, _, _ => by simp [cnt]
  | x :: r, [], _, h => by simp at h
  | x :: r, y :: q, p, h => by
    obtain ⟨rfl, h2⟩ := List.cons_prefix_cons.mp h
    rw [cnt, cnt]
    exact List.cons_prefix_cons.mpr ⟨rfl, pre_cnt _ h2⟩
theorem pre_odds : ∀ {a b : List Bool}, a <+: b → odds a <+: odds b
  | [], _, _ => by simp [odds]
  | [x], _, _ => by simp [odds]
  | x :: x2 :: r, [], h => by simp at h
  | x :: x2 :: r, [y], h => by
    obtain ⟨rfl, h2⟩ := List.cons_prefix_cons.mp h
    simp at h2
  | x :: x2 :: r, y :: y2 :: q, h => by
    obtain ⟨rfl, h2⟩ := List.cons_prefix_cons.mp h
    obtain ⟨rfl, h3⟩ := List.cons_prefix_cons.mp h2
    rw [odds, odds]
    exact List.cons_prefix_cons.mpr ⟨rfl, pre_odds h3⟩
theorem pre_tw {a b : List Bool} (h : a <+: b) : twL a <+: twL b := by
  obtain ⟨r, rfl⟩ := h
  unfold twL
  rw [List.flatMap_append]
  exact List.prefix_append _ _
theorem pre_late {a b : List Bool} (c : Bool) (h : a <+: b) : lateL c a <+: lateL c b := by
  obtain ⟨r, rfl⟩ := h
  unfold lateL
  have e : (c :: a).take a.length = (c :: (a ++ r)).take a.length := by
    rw [← List.cons_append, List.take_append_of_le_length (by simp)]
  rw [e, List.length_append]
  exact List.take_prefix_take_left (by omega)
theorem pre_zip {f : Bool → Bool → Bool} : ∀ {a b c d : List Bool}, a <+: b → c <+: d → List.zipWith f a c <+: List.zipWith f b d
  | [], _, _, _, _, _ => by simp
  | x :: r, [], _, _, h, _ => by simp at h
  | x :: r, y :: q, [], _, _, _ => by simp
  | x :: r, y :: q, z :: s, [], _, h => by simp at h
  | x :: r, y :: q, z :: s, w :: t, h, h' => by
    obtain ⟨rfl, h2⟩ := List.cons_prefix_cons.mp h
    obtain ⟨rfl, h3⟩ := List.cons_prefix_cons.mp h'
    rw [List.zipWith_cons_cons, List.zipWith_cons_cons]
    exact List.cons_prefix_cons.mpr ⟨rfl, pre_zip h2 h3⟩
theorem pre_keep : ∀ {a b c d : List Bool}, a <+: b → c <+: d → keepL a c <+: keepL b d
  | [], _, _, _, _, _ => by simp [keepL]
  | x :: r, [], _, _, h, _ => by simp at h
  | x :: r, y :: q, [], _, _, _ => by simp [keepL]
  | x :: r, y :: q, z :: s, [], _, h => by simp at h
  | x :: r, y :: q, z :: s, w :: t, h, h' => by
    obtain ⟨rfl, h2⟩ := List.cons_prefix_cons.mp h
    obtain ⟨rfl, h3⟩ := List.cons_prefix_cons.mp h'
    unfold keepL
    split
    · exact List.cons_prefix_cons.mpr ⟨rfl, pre_keep h2 h3⟩
    · exact pre_keep h2 h3
theorem fl_pre : ∀ (t : Tm) {a b : List Bool}, a <+: b → fl t a <+: fl t b
  | .inn, _, _, h => h
  | .un u t, _, _, h => by
    have ih := fl_pre t h
    cases u <;> simp only [fl, U.f]
    · exact ih.map _
    · exact pre_tw ih
    · exact pre_odds ih
    · exact pre_chg _ ih
    · exact pre_cnt _ ih
  | .late c t, _, _, h => pre_late c (fl_pre t h)
  | .bt _ _ _ _ t u, _, _, h => pre_zip (fl_pre t h) (fl_pre u h)
  | .kp t u, _, _, h => pre_keep (fl_pre t h) (fl_pre u h)
  | .th t u, _, _, h => fl_pre u (fl_pre t h)
theorem fl_nil (t : Tm) : fl t [] = [] := by
  have h := fl_len t []
  rw [List.length_nil, Nat.zero_mul] at h
  exact List.length_eq_zero_iff.mp (Nat.le_zero.mp h)
end Mc
set_option Elab.async false
set_option linter.all false
set_option maxRecDepth 100000
set_option maxHeartbeats 1000000
namespace Mc
open PySem PySem.Spec PyProof.Rows L2
/-! ### what is left of a def -/
def Fz (cs : Cells) : Prop := ∀ g, rsvC g cs = some cs
def Fr0 (d : D) : Prop := ∀ g, rsv g d = some d
def FrL (ds : List D) : Prop := ∀ g, rsvL g ds = some ds
theorem fr_str (x : Str) : Fr0 (.str x) := fun _ => rfl
theorem fr_int (x : Int) : Fr0 (.int x) := fun _ => rfl
theorem fr_bl (x : Bool) : Fr0 (.bl x) := fun _ => rfl
theorem fr_non : Fr0 .non := fun _ => rfl
theorem frl_nil : FrL [] := fun _ => rfl
theorem frl_cons {d : D} {ds : List D} (h : Fr0 d) (t : FrL ds) : FrL (d :: ds) := fun g => by simp only [rsvL]; rw [h g, t g]
theorem frl_of : ∀ {ds : List D}, (∀ d ∈ ds, Fr0 d) → FrL ds
  | [], _ => frl_nil
  | d :: ds, h => frl_cons (h d List.mem_cons_self) (frl_of fun x hx => h x (List.mem_cons_of_mem _ hx))
theorem fr_tup {ds : List D} (h : FrL ds) : Fr0 (.tup ds) := fun g => by simp only [rsv]; rw [h g]
theorem fr_lst {ds : List D} (h : FrL ds) : Fr0 (.lst ds) := fun g => by simp only [rsv]; rw [h g]
theorem fz_nil : Fz [] := fun _ => rfl
theorem fz_cons {ds : List D} {cs : Cells} (h : FrL ds) (t : Fz cs) : Fz (.lst ds :: cs) := fun g => by simp only [rsvC]; rw [h g, t g]
theorem fin_at {v : D} {cs ex : Cells} (hv : Fr0 v) (hc : Fz cs) : fin false cs.length v (cs ++ ex) = some (v, cs) := by
  unfold fin
  rw [if_neg Bool.false_ne_true, hv, List.take_left, hc]
theorem fin_same {v : D} {cs : Cells} (hv : Fr0 v) (hc : Fz cs) : fin false cs.length v cs = some (v, cs) := by
  have := fin_at (ex := []) hv hc
  rwa [List.append_nil] at this
theorem fin_n {v : D} {cs : Cells} {n : Nat} (hn : n = cs.length) (hv : Fr0 v) (hc : Fz cs) : fin false n v cs = some (v, cs) := by subst hn; exact fin_same hv hc
theorem fr_tm : ∀ t : Tm, Fr0 t.d
  | .inn => fr_str _
  | .un u t => fr_tup (frl_cons (fr_str _) (frl_cons (fr_tm t) frl_nil))
  | .late c t => fr_tup (frl_cons (fr_str _) (frl_cons (fr_str _) (frl_cons (fr_tm t) frl_nil)))
  | .bt _ _ _ _ t u => fr_tup (frl_cons (fr_str _) (frl_cons (fr_str _) (frl_cons (fr_tm t) (frl_cons (fr_tm u) frl_nil))))
  | .kp t u => fr_tup (frl_cons (fr_str _) (frl_cons (fr_tm t) (frl_cons (fr_tm u) frl_nil)))
  | .th t u => fr_tup (frl_cons (fr_str _) (frl_cons (fr_tm t) (frl_cons (fr_tm u) frl_nil)))
/-! ### walks -/
theorem compGo_ok {src : Src} {f : D → Cells → Option (Option D × Cells)} {g : D → Option D} {cs : Cells} {ds : List D} (hat : ∀ i, src.at_ cs i = some ds[i]?) (hf : ∀ d ∈ ds, f d cs = some (g d, cs)) (hl : ds.length ≤ cap) :
    ∀ (k i : Nat) (acc : List D), ds.length - i < k → acc.length ≤ i → compGo src f k i acc cs = some (acc ++ (ds.drop i).filterMap g, cs)
  | 0, i, acc, h, _ => by omega
  | k + 1, i, acc, h, ha => by
    unfold compGo
    rw [hat]
    by_cases hi : i < ds.length
    · have e : ds[i]? = some ds[i] := List.getElem?_eq_getElem hi
      have hd : ds.drop i = ds[i] :: ds.drop (i + 1) := List.drop_eq_getElem_cons hi
      rw [e]; dsimp only; rw [hf _ (List.getElem_mem hi)]
      cases hg : g ds[i] with
      | none =>
        show compGo src f k (i + 1) acc cs = _
        rw [compGo_ok hat hf hl k (i + 1) acc (by omega) (by omega), hd, List.filterMap_cons_none hg]
      | some y =>
        show (if acc.length < cap then compGo src f k (i + 1) (acc ++ [y]) cs else none) = _
        rw [if_pos (by omega), compGo_ok hat hf hl k (i + 1) (acc ++ [y]) (by omega) (by simp; omega), hd, List.filterMap_cons_some hg]
        simp
    · have e : ds[i]? = none := List.getElem?_eq_none (by omega)
      rw [e, List.drop_of_length_le (by omega)]
      simp
theorem comp0 {src : Src} {f : D → Cells → Option (Option D × Cells)} (g : D → Option D) {cs : Cells} (ds : List D) {m : Nat} (hat : ∀ i, src.at_ cs i = some ds[i]?) (hf : ∀ d ∈ ds, f d cs = some (g d, cs)) (hl : ds.length ≤ cap) (hm : ds.length < m) :
    compGo src f m 0 [] cs = some (ds.filterMap g, cs) := by
  rw [compGo_ok hat hf hl m 0 [] (by omega) (Nat.zero_le _)]
  simp
theorem at_fz (ds : List D) (cs : Cells) (i : Nat) : (Src.fz ds).at_ cs i = some ds[i]? := rfl
theorem at_zp : ∀ (xs ys : List D) (cs : Cells) (i : Nat), (Src.zp (.fz xs) (.fz ys)).at_ cs i = some (List.zipWith (fun a b => D.tup [a, b]) xs ys)[i]? := by
  intro xs ys cs i
  simp only [Src.at_]
  rw [List.getElem?_zipWith]
  cases xs[i]? <;> cases ys[i]? <;> rfl
/-- a walk with a state: I i acc cs holds ahead of turn i -/
theorem comp_inv {src : Src} {f : D → Cells → Option (Option D × Cells)} {ds : List D} (I : Nat → List D → Cells → Prop) (hat : ∀ i acc cs, I i acc cs → src.at_ cs i = some ds[i]?)
    (hf : ∀ i d acc cs, ds[i]? = some d → I i acc cs → ∃ y cs1, f d cs = some (some y, cs1) ∧ I (i + 1) (acc ++ [y]) cs1) (hl : ds.length ≤ cap) :
    ∀ (k i : Nat) (acc : List D) (cs : Cells), ds.length - i < k → acc.length ≤ i → i ≤ ds.length → I i acc cs → ∃ acc' cs', compGo src f k i acc cs = some (acc', cs') ∧ I ds.length acc' cs'
  | 0, i, acc, cs, h, _, _, _ => by omega
  | k + 1, i, acc, cs, h, ha, hle, hI => by
    unfold compGo
    rw [hat i acc cs hI]
    by_cases hi : i < ds.length
    · have e : ds[i]? = some ds[i] := List.getElem?_eq_getElem hi
      obtain ⟨y, cs1, h1, h2⟩ := hf i _ acc cs e hI
      rw [e]; dsimp only; rw [h1]
      show ∃ acc' cs', (if acc.length < cap then compGo src f k (i + 1) (acc ++ [y]) cs1 else none) = _ ∧ _
      rw [if_pos (by omega)]
      exact comp_inv I hat hf hl k (i + 1) _ cs1 (by omega) (by simp; omega) hi h2
    · have e : i = ds.length := by omega
      subst e
      rw [List.getElem?_eq_none (Nat.le_refl _)]
      exact ⟨acc, cs, rfl, hI⟩
theorem for_inv {src : Src} {f : D → Sl → Cells → Option R} {ds : List D} (I : Nat → Sl → Cells → Prop) (hat : ∀ i env cs, I i env cs → src.at_ cs i = some ds[i]?)
    (hf : ∀ i d env cs, ds[i]? = some d → I i env cs → ∃ env1 cs1, f d env cs = some (.nx env1 cs1) ∧ I (i + 1) env1 cs1) :
    ∀ (k i : Nat) (env : Sl) (cs : Cells), ds.length - i < k → i ≤ ds.length → I i env cs → ∃ env' cs', forGo src f k i env cs = some (.nx env' cs') ∧ I ds.length env' cs'
  | 0, i, _, _, h, _, _ => by omega
  | k + 1, i, env, cs, h, hle, hI => by
    unfold forGo
    rw [hat i env cs hI]
    by_cases hi : i < ds.length
    · have e : ds[i]? = some ds[i] := List.getElem?_eq_getElem hi
      obtain ⟨env1, cs1, h1, h2⟩ := hf i _ env cs e hI
      rw [e]; dsimp only; rw [h1]
      exact for_inv I hat hf k (i + 1) env1 cs1 (by omega) hi h2
    · have e : i = ds.length := by omega
      subst e
      rw [List.getElem?_eq_none (Nat.le_refl _)]
      exact ⟨env, cs, rfl, hI⟩
end Mc
set_option Elab.async false
set_option linter.all false
set_option maxRecDepth 100000
set_option maxHeartbeats 2000000
namespace Mc
open PySem PySem.Spec PyProof.Rows L2
def P (n : Nat) : Phi := callN 1000 tab n
theorem P_step {n f : Nat} {d : Fd} {ds : List D} {cs : Cells} (h : tab[f]? = some d) (hl : ds.length = d.np) :
    P (n + 1) f ds cs = (match evSs (P n) 1000 d.body (ds.map some ++ List.replicate (d.nN - d.np) none) cs with
      | some (.rt v cs') => fin d.keep cs.length v cs'
      | some (.nx _ cs') => fin d.keep cs.length .non cs'
      | _ => none) := by
  unfold P
  rw [callN.eq_2]
  dsimp only
  rw [h]
  dsimp only
  rw [if_pos hl]
  all_goals rfl
theorem w_in_not : (Str.ofString "in" == Str.ofString "not") = false := by decide +kernel
theorem w_in_late : (Str.ofString "in" == Str.ofString "late") = false := by decide +kernel
theorem w_in_twice : (Str.ofString "in" == Str.ofString "twice") = false := by decide +kernel
theorem w_in_half : (Str.ofString "in" == Str.ofString "half") = false := by decide +kernel
theorem w_in_change : (Str.ofString "in" == Str.ofString "change") = false := by decide +kernel
theorem w_in_count : (Str.ofString "in" == Str.ofString "count") = false := by decide +kernel
theorem w_in_by : (Str.ofString "in" == Str.ofString "by") = false := by decide +kernel
theorem w_in_keep : (Str.ofString "in" == Str.ofString "keep") = false := by decide +kernel
theorem w_in_then : (Str.ofString "in" == Str.ofString "then") = false := by decide +kernel
theorem w_not_in : (Str.ofString "not" == Str.ofString "in") = false := by decide +kernel
theorem w_not_late : (Str.ofString "not" == Str.ofString "late") = false := by decide +kernel
theorem w_not_twice : (Str.ofString "not" == Str.ofString "twice") = false := by decide +kernel
theorem w_not_half : (Str.ofString "not" == Str.ofString "half") = false := by decide +kernel
theorem w_not_change : (Str.ofString "not" == Str.ofString "change") = false := by decide +kernel
theorem w_not_count : (Str.ofString "not" == Str.ofString "count") = false := by decide +kernel
theorem w_not_by : (Str.ofString "not" == Str.ofString "by") = false := by decide +kernel
theorem w_not_keep : (Str.ofString "not" == Str.ofString "keep") = false := by decide +kernel
theorem w_not_then : (Str.ofString "not" == Str.ofString "then") = false := by decide +kernel
theorem w_late_in : (Str.ofString "late" == Str.ofString "in") = false := by decide +kernel
theorem w_late_not : (Str.ofString "late" == Str.ofString "not") = false := by decide +kernel
theorem w_late_twice : (Str.ofString "late" == Str.ofString "twice") = false := by decide +kernel
theorem w_late_half : (Str.ofString "late" == Str.ofString "half") = false := by decide +kernel
theorem w_late_change : (Str.ofString "late" == Str.ofString "change") = false := by decide +kernel
theorem w_late_count : (Str.ofString "late" == Str.ofString "count") = false := by decide +kernel
theorem w_late_by : (Str.ofString "late" == Str.ofString "by") = false := by decide +kernel
theorem w_late_keep : (Str.ofString "late" == Str.ofString "keep") = false := by decide +kernel
theorem w_late_then : (Str.ofString "late" == Str.ofString "then") = false := by decide +kernel
theorem w_twice_in : (Str.ofString "twice" == Str.ofString "in") = false := by decide +kernel
theorem w_twice_not : (Str.ofString "twice" == Str.ofString "not") = false := by decide +kernel
theorem w_twice_late : (Str.ofString "twice" == Str.ofString "late") = false := by decide +kernel
theorem w_twice_half : (Str.ofString "twice" == Str.ofString "half") = false := by decide +kernel
theorem w_twice_change : (Str.ofString "twice" == Str.ofString "change") = false := by decide +kernel
theorem w_twice_count : (Str.ofString "twice" == Str.ofString "count") = false := by decide +kernel
theorem w_twice_by : (Str.ofString "twice" == Str.ofString "by") = false := by decide +kernel
theorem w_twice_keep : (Str.ofString "twice" == Str.ofString "keep") = false := by decide +kernel
theorem w_twice_then : (Str.ofString "twice" == Str.ofString "then") = false := by decide +kernel
theorem w_half_in : (Str.ofString "half" == Str.ofString "in") = false := by decide +kernel
theorem w_half_not : (Str.ofString "half" == Str.ofString "not") = false := by decide +kernel
theorem w_half_late : (Str.ofString "half" == Str.ofString "late") = false := by decide +kernel
theorem w_half_twice : (Str.ofString "half" == Str.ofString "twice") = false := by decide +kernel
theorem w_half_change : (Str.ofString "half" == Str.ofString "change") = false := by decide +kernel
theorem w_half_count : (Str.ofString "half" == Str.ofString "count") = false := by decide +kernel
theorem w_half_by : (Str.ofString "half" == Str.ofString "by") = false := by decide +kernel
theorem w_half_keep : (Str.ofString "half" == Str.ofString "keep") = false := by decide +kernel
theorem w_half_then : (Str.ofString "half" == Str.ofString "then") = false := by decide +kernel
theorem w_change_in : (Str.ofString "change" == Str.ofString "in") = false := by decide +kernel
theorem w_change_not : (Str.ofString "change" == Str.ofString "not") = false := by decide +kernel
theorem w_change_late : (Str.ofString "change" == Str.ofString "late") = false := by decide +kernel
theorem w_change_twice : (Str.ofString "change" == Str.ofString "twice") = false := by decide +kernel
theorem w_change_half : (Str.ofString "change" == Str.ofString "half") = false := by decide +kernel
theorem w_change_count : (Str.ofString "change" == Str.ofString "count") = false := by decide +kernel
theorem w_change_by : (Str.ofString "change" == Str.ofString "by") = false := by decide +kernel
theorem w_change_keep : (Str.ofString "change" == Str.ofString "keep") = false := by decide +kernel
theorem w_change_then : (Str.ofString "change" == Str.ofString "then") = false := by decide +kernel
theorem w_count_in : (Str.ofString "count" == Str.ofString "in") = false := by decide +kernel
theorem w_count_not : (Str.ofString "count" == Str.ofString "not") = false := by decide +kernel
theorem w_count_late : (Str.ofString "count" == Str.ofString "late") = false := by decide +kernel
theorem w_count_twice : (Str.ofString "count" == Str.ofString "twice") = false := by decide +kernel
theorem w_count_half : (Str.ofString "count" == Str.ofString "half") = false := by decide +kernel
theorem w_count_change : (Str.ofString "count" == Str.ofString "change") = false := by decide +kernel
theorem w_count_by : (Str.ofString "count" == Str.ofString "by") = false := by decide +kernel
theorem w_count_keep : (Str.ofString "count" == Str.ofString "keep") = false := by decide +kernel
theorem w_count_then : (Str.ofString "count" == Str.ofString "then") = false := by decide +kernel
theorem w_by_in : (Str.ofString "by" == Str.ofString "in") = false := by decide +kernel
theorem w_by_not : (Str.ofString "by" == Str.ofString "not") = false := by decide +kernel
theorem w_by_late : (Str.ofString "by" == Str.ofString "late") = false := by decide +kernel
theorem w_by_twice : (Str.ofString "by" == Str.ofString "twice") = false := by decide +kernel
theorem w_by_half : (Str.ofString "by" == Str.ofString "half") = false := by decide +kernel
theorem w_by_change : (Str.ofString "by" == Str.ofString "change") = false := by decide +kernel
theorem w_by_count : (Str.ofString "by" == Str.ofString "count") = false := by decide +kernel
theorem w_by_keep : (Str.ofString "by" == Str.ofString "keep") = false := by decide +kernel
theorem w_by_then : (Str.ofString "by" == Str.ofString "then") = false := by decide +kernel
theorem w_keep_in : (Str.ofString "keep" == Str.ofString "in") = false := by decide +kernel
theorem w_keep_not : (Str.ofString "keep" == Str.ofString "not") = false := by decide +kernel
theorem w_keep_late : (Str.ofString "keep" == Str.ofString "late") = false := by decide +kernel
theorem w_keep_twice : (Str.ofString "keep" == Str.ofString "twice") = false := by decide +kernel
theorem w_keep_half : (Str.ofString "keep" == Str.ofString "half") = false := by decide +kernel
theorem w_keep_change : (Str.ofString "keep" == Str.ofString "change") = false := by decide +kernel
theorem w_keep_count : (Str.ofString "keep" == Str.ofString "count") = false := by decide +kernel
theorem w_keep_by : (Str.ofString "keep" == Str.ofString "by") = false := by decide +kernel
theorem w_keep_then : (Str.ofString "keep" == Str.ofString "then") = false := by decide +kernel
theorem w_then_in : (Str.ofString "then" == Str.ofString "in") = false := by decide +kernel
theorem w_then_not : (Str.ofString "then" == Str.ofString "not") = false := by decide +kernel
theorem w_then_late : (Str.ofString "then" == Str.ofString "late") = false := by decide +kernel
theorem w_then_twice : (Str.ofString "then" == Str.ofString "twice") = false := by decide +kernel
theorem w_then_half : (Str.ofString "then" == Str.ofString "half") = false := by decide +kernel
theorem w_then_change : (Str.ofString "then" == Str.ofString "change") = false := by decide +kernel
theorem w_then_count : (Str.ofString "then" == Str.ofString "count") = false := by decide +kernel
theorem w_then_by : (Str.ofString "then" == Str.ofString "by") = false := by decide +kernel
theorem w_then_keep : (Str.ofString "then" == Str.ofString "keep") = false := by decide +kernel

/-! facts of types, places -/
theorem le0 : (0 ≤ cap) = True := eq_true (by decide)
theorem le1 : (1 ≤ cap) = True := eq_true (by decide)
theorem le2 : (2 ≤ cap) = True := eq_true (by decide)
theorem le3 : (3 ≤ cap) = True := eq_true (by decide)
theorem le4 : (4 ≤ cap) = True := eq_true (by decide)
theorem le5 : (5 ≤ cap) = True := eq_true (by decide)
theorem getF_not : getF ["not", "late", "twice", "half", "change", "count", "by", "keep", "then"] [(.tup [(.int 0), (.int 1)]), (.tup [(.int 1), (.int 1)]), (.tup [(.int 0), (.int 1)]), (.tup [(.int 0), (.int 1)]), (.tup [(.int 0), (.int 1)]), (.tup [(.int 0), (.int 1)]), (.tup [(.int 1), (.int 2)]), (.tup [(.int 0), (.int 2)]), (.tup [(.int 0), (.int 2)])] (Str.ofString "not") = some (.tup [.int 0, .int 1]) := by rfl
theorem getF_late : getF ["not", "late", "twice", "half", "change", "count", "by", "keep", "then"] [(.tup [(.int 0), (.int 1)]), (.tup [(.int 1), (.int 1)]), (.tup [(.int 0), (.int 1)]), (.tup [(.int 0), (.int 1)]), (.tup [(.int 0), (.int 1)]), (.tup [(.int 0), (.int 1)]), (.tup [(.int 1), (.int 2)]), (.tup [(.int 0), (.int 2)]), (.tup [(.int 0), (.int 2)])] (Str.ofString "late") = some (.tup [.int 1, .int 1]) := by rfl
theorem getF_twice : getF ["not", "late", "twice", "half", "change", "count", "by", "keep", "then"] [(.tup [(.int 0), (.int 1)]), (.tup [(.int 1), (.int 1)]), (.tup [(.int 0), (.int 1)]), (.tup [(.int 0), (.int 1)]), (.tup [(.int 0), (.int 1)]), (.tup [(.int 0), (.int 1)]), (.tup [(.int 1), (.int 2)]), (.tup [(.int 0), (.int 2)]), (.tup [(.int 0), (.int 2)])] (Str.ofString "twice") = some (.tup [.int 0, .int 1]) := by rfl
theorem getF_half : getF ["not", "late", "twice", "half", "change", "count", "by", "keep", "then"] [(.tup [(.int 0), (.int 1)]), (.tup [(.int 1), (.int 1)]), (.tup [(.int 0), (.int 1)]), (.tup [(.int 0), (.int 1)]), (.tup [(.int 0), (.int 1)]), (.tup [(.int 0), (.int 1)]), (.tup [(.int 1), (.int 2)]), (.tup [(.int 0), (.int 2)]), (.tup [(.int 0), (.int 2)])] (Str.ofString "half") = some (.tup [.int 0, .int 1]) := by rfl
theorem getF_change : getF ["not", "late", "twice", "half", "change", "count", "by", "keep", "then"] [(.tup [(.int 0), (.int 1)]), (.tup [(.int 1), (.int 1)]), (.tup [(.int 0), (.int 1)]), (.tup [(.int 0), (.int 1)]), (.tup [(.int 0), (.int 1)]), (.tup [(.int 0), (.int 1)]), (.tup [(.int 1), (.int 2)]), (.tup [(.int 0), (.int 2)]), (.tup [(.int 0), (.int 2)])] (Str.ofString "change") = some (.tup [.int 0, .int 1]) := by rfl
theorem getF_count : getF ["not", "late", "twice", "half", "change", "count", "by", "keep", "then"] [(.tup [(.int 0), (.int 1)]), (.tup [(.int 1), (.int 1)]), (.tup [(.int 0), (.int 1)]), (.tup [(.int 0), (.int 1)]), (.tup [(.int 0), (.int 1)]), (.tup [(.int 0), (.int 1)]), (.tup [(.int 1), (.int 2)]), (.tup [(.int 0), (.int 2)]), (.tup [(.int 0), (.int 2)])] (Str.ofString "count") = some (.tup [.int 0, .int 1]) := by rfl
theorem getF_by : getF ["not", "late", "twice", "half", "change", "count", "by", "keep", "then"] [(.tup [(.int 0), (.int 1)]), (.tup [(.int 1), (.int 1)]), (.tup [(.int 0), (.int 1)]), (.tup [(.int 0), (.int 1)]), (.tup [(.int 0), (.int 1)]), (.tup [(.int 0), (.int 1)]), (.tup [(.int 1), (.int 2)]), (.tup [(.int 0), (.int 2)]), (.tup [(.int 0), (.int 2)])] (Str.ofString "by") = some (.tup [.int 1, .int 2]) := by rfl
theorem getF_keep : getF ["not", "late", "twice", "half", "change", "count", "by", "keep", "then"] [(.tup [(.int 0), (.int 1)]), (.tup [(.int 1), (.int 1)]), (.tup [(.int 0), (.int 1)]), (.tup [(.int 0), (.int 1)]), (.tup [(.int 0), (.int 1)]), (.tup [(.int 0), (.int 1)]), (.tup [(.int 1), (.int 2)]), (.tup [(.int 0), (.int 2)]), (.tup [(.int 0), (.int 2)])] (Str.ofString "keep") = some (.tup [.int 0, .int 2]) := by rfl
theorem getF_then : getF ["not", "late", "twice", "half", "change", "count", "by", "keep", "then"] [(.tup [(.int 0), (.int 1)]), (.tup [(.int 1), (.int 1)]), (.tup [(.int 0), (.int 1)]), (.tup [(.int 0), (.int 1)]), (.tup [(.int 0), (.int 1)]), (.tup [(.int 0), (.int 1)]), (.tup [(.int 1), (.int 2)]), (.tup [(.int 0), (.int 2)]), (.tup [(.int 0), (.int 2)])] (Str.ofString "then") = some (.tup [.int 0, .int 2]) := by rfl

theorem isi_ts (cs : Cells) (xs : List D) : isiD cs (.tup xs) (.ty "str") = some false := rfl
theorem isi_ss (cs : Cells) (x : Str) : isiD cs (.str x) (.ty "str") = some true := rfl
theorem isi_tt (cs : Cells) (xs : List D) : isiD cs (.tup xs) (.ty "tuple") = some true := rfl
theorem isi_st (cs : Cells) (x : Str) : isiD cs (.str x) (.ty "tuple") = some false := rfl
theorem eqB_ss (cs : Cells) (x y : Str) : eqB cs (.str x) (.str y) = some (x == y) := rfl
theorem eqB_ii (cs : Cells) (x y : Int) : eqB cs (.int x) (.int y) = some (x == y) := rfl
theorem atI_0 {α : Type} (a : α) (r : List α) : atI (a :: r) 0 = some a := by
  unfold atI ixN
  rw [if_pos (by decide), if_pos (by simp only [List.length_cons]; omega)]
  simp
theorem atI_1 {α : Type} (a b : α) (r : List α) : atI (a :: b :: r) 1 = some b := by
  unfold atI ixN
  rw [if_pos (by decide), if_pos (by simp only [List.length_cons]; omega)]
  simp
theorem atI_2 {α : Type} (a b c : α) (r : List α) : atI (a :: b :: c :: r) 2 = some c := by
  unfold atI ixN
  rw [if_pos (by decide), if_pos (by simp only [List.length_cons]; omega)]
  simp
theorem cutD_1 (a : D) (r : List D) : cutD (a :: r) (some 1) none = r := by
  unfold cutD
  rw [show HT.sIx (a :: r).length 0 (some 1) = min 1 (a :: r).length from HT.sIx_nat _ 0 1, HT.sIx_none]
  have e1 : min 1 (a :: r).length = 1 := by simp only [List.length_cons]; omega
  rw [e1]
  have e2 : (a :: r).length - 1 = r.length := by simp only [List.length_cons]; omega
  rw [e2]
  exact List.take_length
theorem cutD_2 (a b : D) (r : List D) : cutD (a :: b :: r) (some 2) none = r := by
  unfold cutD
  rw [show HT.sIx (a :: b :: r).length 0 (some 2) = min 2 (a :: b :: r).length from HT.sIx_nat _ 0 2, HT.sIx_none]
  have e1 : min 2 (a :: b :: r).length = 2 := by simp only [List.length_cons]; omega
  rw [e1]
  have e2 : (a :: b :: r).length - 2 = r.length := by simp only [List.length_cons]; omega
  rw [e2]
  exact List.take_length
/-! ### the program's defs -/
theorem c_unlike (n : Nat) (a b : Str) (cs : Cells) (hc : Fz cs) : P (n + 1) 14 [.str a, .str b] cs = some (.str (if (a == b) = true then Str.ofString "0" else Str.ofString "1"), cs) := by
  rw [P_step (d := (td_unlike 0).fd) rfl rfl]
  simp only [td_unlike, evSs, evS, evE, evT, evEs, evAnd, evOr, evTA, evTO, evG, evGs, evO, evC, evL, evI, cmpD, opD, augD, idxD, slcD, mtD, mtOk, biD, truD, seqOf, lstOf, srcL, List.map_cons, List.map_nil, List.cons_append, List.nil_append, List.getElem?_cons_zero, List.getElem?_cons_succ, List.getElem?_nil, List.set_cons_zero, List.set_cons_succ, List.length_cons, List.length_nil, List.replicate_succ, List.replicate_zero, Nat.reduceSub, Nat.reduceAdd, Bool.false_eq_true, if_false, if_true, le0, le1, le2, le3, le4, le5, Int.reduceAdd, Int.reduceMul, eqB_ss]
  cases h : (a == b)
  · simp only [evSs, evS, evE, evT, evEs, evAnd, evOr, evTA, evTO, evG, evGs, evO, evC, evL, evI, cmpD, opD, augD, idxD, slcD, mtD, mtOk, biD, truD, seqOf, lstOf, srcL, List.map_cons, List.map_nil, List.cons_append, List.nil_append, List.getElem?_cons_zero, List.getElem?_cons_succ, List.getElem?_nil, List.set_cons_zero, List.set_cons_succ, List.length_cons, List.length_nil, List.replicate_succ, List.replicate_zero, Nat.reduceSub, Nat.reduceAdd, Bool.false_eq_true, if_false, if_true, le0, le1, le2, le3, le4, le5, Int.reduceAdd, Int.reduceMul]
    rw [fin_same (fr_str _) hc]
  · simp only [evSs, evS, evE, evT, evEs, evAnd, evOr, evTA, evTO, evG, evGs, evO, evC, evL, evI, cmpD, opD, augD, idxD, slcD, mtD, mtOk, biD, truD, seqOf, lstOf, srcL, List.map_cons, List.map_nil, List.cons_append, List.nil_append, List.getElem?_cons_zero, List.getElem?_cons_succ, List.getElem?_nil, List.set_cons_zero, List.set_cons_succ, List.length_cons, List.length_nil, List.replicate_succ, List.replicate_zero, Nat.reduceSub, Nat.reduceAdd, Bool.false_eq_true, if_false, if_true, le0, le1, le2, le3, le4, le5, Int.reduceAdd, Int.reduceMul]
    rw [fin_same (fr_str _) hc]
theorem c_word_s (n : Nat) (x : Str) (cs : Cells) (hc : Fz cs) : P (n + 1) 6 [.str x] cs = some (.str x, cs) := by
  rw [P_step (d := (td_word_of 0).fd) rfl rfl]
  simp only [td_word_of, evSs, evS, evE, evT, evEs, evAnd, evOr, evTA, evTO, evG, evGs, evO, evC, evL, evI, cmpD, opD, augD, idxD, slcD, mtD, mtOk, biD, truD, seqOf, lstOf, srcL, List.map_cons, List.map_nil, List.cons_append, List.nil_append, List.getElem?_cons_zero, List.getElem?_cons_succ, List.getElem?_nil, List.set_cons_zero, List.set_cons_succ, List.length_cons, List.length_nil, List.replicate_succ, List.replicate_zero, Nat.reduceSub, Nat.reduceAdd, Bool.false_eq_true, if_false, if_true, le0, le1, le2, le3, le4, le5, Int.reduceAdd, Int.reduceMul, isi_ss]
  rw [fin_same (fr_str _) hc]
theorem c_word_t (n : Nat) (x : Str) (r : List D) (cs : Cells) (hc : Fz cs) : P (n + 1) 6 [.tup (.str x :: r)] cs = some (.str x, cs) := by
  rw [P_step (d := (td_word_of 0).fd) rfl rfl]
  simp only [td_word_of, evSs, evS, evE, evT, evEs, evAnd, evOr, evTA, evTO, evG, evGs, evO, evC, evL, evI, cmpD, opD, augD, idxD, slcD, mtD, mtOk, biD, truD, seqOf, lstOf, srcL, List.map_cons, List.map_nil, List.cons_append, List.nil_append, List.getElem?_cons_zero, List.getElem?_cons_succ, List.getElem?_nil, List.set_cons_zero, List.set_cons_succ, List.length_cons, List.length_nil, List.replicate_succ, List.replicate_zero, Nat.reduceSub, Nat.reduceAdd, Bool.false_eq_true, if_false, if_true, le0, le1, le2, le3, le4, le5, Int.reduceAdd, Int.reduceMul, isi_ts, atI_0]
  rw [fin_same (fr_str _) hc]
def Tm.ps : Tm → List D
  | .inn => [] | .un _ t => [t.d] | .late _ t => [t.d] | .bt _ _ _ _ t u => [t.d, u.d] | .kp t u => [t.d, u.d] | .th t u => [t.d, u.d]
def Tm.w : Tm → Str
  | .inn => "in" | .un u _ => u.w | .late _ _ => "late" | .bt _ _ _ _ _ _ => "by" | .kp _ _ => "keep" | .th _ _ => "then"
theorem c_word (n : Nat) (t : Tm) (cs : Cells) (hc : Fz cs) : P (n + 1) 6 [t.d] cs = some (.str t.w, cs) := by
  cases t <;> first | exact c_word_s n _ cs hc | exact c_word_t n _ _ cs hc
theorem frl_ps (t : Tm) : FrL t.ps := by
  cases t
  · exact frl_nil
  · exact frl_cons (fr_tm _) frl_nil
  · exact frl_cons (fr_tm _) frl_nil
  · exact frl_cons (fr_tm _) (frl_cons (fr_tm _) frl_nil)
  · exact frl_cons (fr_tm _) (frl_cons (fr_tm _) frl_nil)
  · exact frl_cons (fr_tm _) (frl_cons (fr_tm _) frl_nil)
theorem c_parts (n : Nat) (t : Tm) (cs : Cells) (hc : Fz cs) : P (n + 2) 7 [t.d] cs = some (.lst t.ps, cs) := by
  rw [P_step (d := (td_parts_of 0).fd) rfl rfl]
  cases t with
  | inn =>
    simp only [td_parts_of, Tm.d, evSs, evS, evE, evT, evEs, evAnd, evOr, evTA, evTO, evG, evGs, evO, evC, evL, evI, cmpD, opD, augD, idxD, slcD, mtD, mtOk, biD, truD, seqOf, lstOf, srcL, List.map_cons, List.map_nil, List.cons_append, List.nil_append, List.getElem?_cons_zero, List.getElem?_cons_succ, List.getElem?_nil, List.set_cons_zero, List.set_cons_succ, List.length_cons, List.length_nil, List.replicate_succ, List.replicate_zero, Nat.reduceSub, Nat.reduceAdd, Bool.false_eq_true, if_false, if_true, le0, le1, le2, le3, le4, le5, Int.reduceAdd, Int.reduceMul, c_word_s _ _ _ hc, c_word_t _ _ _ _ hc, eqB_ss, Tm.w, beq_self_eq_true, Tm.ps]
    rw [fin_same (fr_lst frl_nil) hc]
  | un u t =>
    cases u <;> (simp only [td_parts_of, evSs, evS, evE, evT, evEs, evAnd, evOr, evTA, evTO, evG, evGs, evO, evC, evL, evI, cmpD, opD, augD, idxD, slcD, mtD, mtOk, biD, truD, seqOf, lstOf, srcL, List.map_cons, List.map_nil, List.cons_append, List.nil_append, List.getElem?_cons_zero, List.getElem?_cons_succ, List.getElem?_nil, List.set_cons_zero, List.set_cons_succ, List.length_cons, List.length_nil, List.replicate_succ, List.replicate_zero, Nat.reduceSub, Nat.reduceAdd, Bool.false_eq_true, if_false, if_true, le0, le1, le2, le3, le4, le5, Int.reduceAdd, Int.reduceMul, c_word_s _ _ _ hc, c_word_t _ _ _ _ hc, eqB_ss, Tm.w, U.w, Tm.ps, Tm.d, w_in_not, w_in_late, w_in_twice, w_in_half, w_in_change, w_in_count, w_in_by, w_in_keep, w_in_then, w_not_in, w_not_late, w_not_twice, w_not_half, w_not_change, w_not_count, w_not_by, w_not_keep, w_not_then, w_late_in, w_late_not, w_late_twice, w_late_half, w_late_change, w_late_count, w_late_by, w_late_keep, w_late_then, w_twice_in, w_twice_not, w_twice_late, w_twice_half, w_twice_change, w_twice_count, w_twice_by, w_twice_keep, w_twice_then, w_half_in, w_half_not, w_half_late, w_half_twice, w_half_change, w_half_count, w_half_by, w_half_keep, w_half_then, w_change_in, w_change_not, w_change_late, w_change_twice, w_change_half, w_change_count, w_change_by, w_change_keep, w_change_then, w_count_in, w_count_not, w_count_late, w_count_twice, w_count_half, w_count_change, w_count_by, w_count_keep, w_count_then, w_by_in, w_by_not, w_by_late, w_by_twice, w_by_half, w_by_change, w_by_count, w_by_keep, w_by_then, w_keep_in, w_keep_not, w_keep_late, w_keep_twice, w_keep_half, w_keep_change, w_keep_count, w_keep_by, w_keep_then, w_then_in, w_then_not, w_then_late, w_then_twice, w_then_half, w_then_change, w_then_count, w_then_by, w_then_keep, getF_not, getF_late, getF_twice, getF_half, getF_change, getF_count, getF_by, getF_keep, getF_then, cutD_1, cutD_2]; rw [fin_same (fr_lst (frl_cons (fr_tm _) frl_nil)) hc])
  | late c t =>
    simp only [td_parts_of, evSs, evS, evE, evT, evEs, evAnd, evOr, evTA, evTO, evG, evGs, evO, evC, evL, evI, cmpD, opD, augD, idxD, slcD, mtD, mtOk, biD, truD, seqOf, lstOf, srcL, List.map_cons, List.map_nil, List.cons_append, List.nil_append, List.getElem?_cons_zero, List.getElem?_cons_succ, List.getElem?_nil, List.set_cons_zero, List.set_cons_succ, List.length_cons, List.length_nil, List.replicate_succ, List.replicate_zero, Nat.reduceSub, Nat.reduceAdd, Bool.false_eq_true, if_false, if_true, le0, le1, le2, le3, le4, le5, Int.reduceAdd, Int.reduceMul, c_word_s _ _ _ hc, c_word_t _ _ _ _ hc, eqB_ss, Tm.w, Tm.ps, Tm.d, w_in_not, w_in_late, w_in_twice, w_in_half, w_in_change, w_in_count, w_in_by, w_in_keep, w_in_then, w_not_in, w_not_late, w_not_twice, w_not_half, w_not_change, w_not_count, w_not_by, w_not_keep, w_not_then, w_late_in, w_late_not, w_late_twice, w_late_half, w_late_change, w_late_count, w_late_by, w_late_keep, w_late_then, w_twice_in, w_twice_not, w_twice_late, w_twice_half, w_twice_change, w_twice_count, w_twice_by, w_twice_keep, w_twice_then, w_half_in, w_half_not, w_half_late, w_half_twice, w_half_change, w_half_count, w_half_by, w_half_keep, w_half_then, w_change_in, w_change_not, w_change_late, w_change_twice, w_change_half, w_change_count, w_change_by, w_change_keep, w_change_then, w_count_in, w_count_not, w_count_late, w_count_twice, w_count_half, w_count_change, w_count_by, w_count_keep, w_count_then, w_by_in, w_by_not, w_by_late, w_by_twice, w_by_half, w_by_change, w_by_count, w_by_keep, w_by_then, w_keep_in, w_keep_not, w_keep_late, w_keep_twice, w_keep_half, w_keep_change, w_keep_count, w_keep_by, w_keep_then, w_then_in, w_then_not, w_then_late, w_then_twice, w_then_half, w_then_change, w_then_count, w_then_by, w_then_keep, getF_not, getF_late, getF_twice, getF_half, getF_change, getF_count, getF_by, getF_keep, getF_then, cutD_1, cutD_2]; rw [fin_same (fr_lst (frl_cons (fr_tm _) frl_nil)) hc]
  | bt a b c d t u =>
    simp only [td_parts_of, evSs, evS, evE, evT, evEs, evAnd, evOr, evTA, evTO, evG, evGs, evO, evC, evL, evI, cmpD, opD, augD, idxD, slcD, mtD, mtOk, biD, truD, seqOf, lstOf, srcL, List.map_cons, List.map_nil, List.cons_append, List.nil_append, List.getElem?_cons_zero, List.getElem?_cons_succ, List.getElem?_nil, List.set_cons_zero, List.set_cons_succ, List.length_cons, List.length_nil, List.replicate_succ, List.replicate_zero, Nat.reduceSub, Nat.reduceAdd, Bool.false_eq_true, if_false, if_true, le0, le1, le2, le3, le4, le5, Int.reduceAdd, Int.reduceMul, c_word_s _ _ _ hc, c_word_t _ _ _ _ hc, eqB_ss, Tm.w, Tm.ps, Tm.d, w_in_not, w_in_late, w_in_twice, w_in_half, w_in_change, w_in_count, w_in_by, w_in_keep, w_in_then, w_not_in, w_not_late, w_not_twice, w_not_half, w_not_change, w_not_count, w_not_by, w_not_keep, w_not_then, w_late_in, w_late_not, w_late_twice, w_late_half, w_late_change, w_late_count, w_late_by, w_late_keep, w_late_then, w_twice_in, w_twice_not, w_twice_late, w_twice_half, w_twice_change, w_twice_count, w_twice_by, w_twice_keep, w_twice_then, w_half_in, w_half_not, w_half_late, w_half_twice, w_half_change, w_half_count, w_half_by, w_half_keep, w_half_then, w_change_in, w_change_not, w_change_late, w_change_twice, w_change_half, w_change_count, w_change_by, w_change_keep, w_change_then, w_count_in, w_count_not, w_count_late, w_count_twice, w_count_half, w_count_change, w_count_by, w_count_keep, w_count_then, w_by_in, w_by_not, w_by_late, w_by_twice, w_by_half, w_by_change, w_by_count, w_by_keep, w_by_then, w_keep_in, w_keep_not, w_keep_late, w_keep_twice, w_keep_half, w_keep_change, w_keep_count, w_keep_by, w_keep_then, w_then_in, w_then_not, w_then_late, w_then_twice, w_then_half, w_then_change, w_then_count, w_then_by, w_then_keep, getF_not, getF_late, getF_twice, getF_half, getF_change, getF_count, getF_by, getF_keep, getF_then, cutD_1, cutD_2]; rw [fin_same (fr_lst (frl_cons (fr_tm _) (frl_cons (fr_tm _) frl_nil))) hc]
  | kp t u =>
    simp only [td_parts_of, evSs, evS, evE, evT, evEs, evAnd, evOr, evTA, evTO, evG, evGs, evO, evC, evL, evI, cmpD, opD, augD, idxD, slcD, mtD, mtOk, biD, truD, seqOf, lstOf, srcL, List.map_cons, List.map_nil, List.cons_append, List.nil_append, List.getElem?_cons_zero, List.getElem?_cons_succ, List.getElem?_nil, List.set_cons_zero, List.set_cons_succ, List.length_cons, List.length_nil, List.replicate_succ, List.replicate_zero, Nat.reduceSub, Nat.reduceAdd, Bool.false_eq_true, if_false, if_true, le0, le1, le2, le3, le4, le5, Int.reduceAdd, Int.reduceMul, c_word_s _ _ _ hc, c_word_t _ _ _ _ hc, eqB_ss, Tm.w, Tm.ps, Tm.d, w_in_not, w_in_late, w_in_twice, w_in_half, w_in_change, w_in_count, w_in_by, w_in_keep, w_in_then, w_not_in, w_not_late, w_not_twice, w_not_half, w_not_change, w_not_count, w_not_by, w_not_keep, w_not_then, w_late_in, w_late_not, w_late_twice, w_late_half, w_late_change, w_late_count, w_late_by, w_late_keep, w_late_then, w_twice_in, w_twice_not, w_twice_late, w_twice_half, w_twice_change, w_twice_count, w_twice_by, w_twice_keep, w_twice_then, w_half_in, w_half_not, w_half_late, w_half_twice, w_half_change, w_half_count, w_half_by, w_half_keep, w_half_then, w_change_in, w_change_not, w_change_late, w_change_twice, w_change_half, w_change_count, w_change_by, w_change_keep, w_change_then, w_count_in, w_count_not, w_count_late, w_count_twice, w_count_half, w_count_change, w_count_by, w_count_keep, w_count_then, w_by_in, w_by_not, w_by_late, w_by_twice, w_by_half, w_by_change, w_by_count, w_by_keep, w_by_then, w_keep_in, w_keep_not, w_keep_late, w_keep_twice, w_keep_half, w_keep_change, w_keep_count, w_keep_by, w_keep_then, w_then_in, w_then_not, w_then_late, w_then_twice, w_then_half, w_then_change, w_then_count, w_then_by, w_then_keep, getF_not, getF_late, getF_twice, getF_half, getF_change, getF_count, getF_by, getF_keep, getF_then, cutD_1, cutD_2]; rw [fin_same (fr_lst (frl_cons (fr_tm _) (frl_cons (fr_tm _) frl_nil))) hc]
  | th t u =>
    simp only [td_parts_of, evSs, evS, evE, evT, evEs, evAnd, evOr, evTA, evTO, evG, evGs, evO, evC, evL, evI, cmpD, opD, augD, idxD, slcD, mtD, mtOk, biD, truD, seqOf, lstOf, srcL, List.map_cons, List.map_nil, List.cons_append, List.nil_append, List.getElem?_cons_zero, List.getElem?_cons_succ, List.getElem?_nil, List.set_cons_zero, List.set_cons_succ, List.length_cons, List.length_nil, List.replicate_succ, List.replicate_zero, Nat.reduceSub, Nat.reduceAdd, Bool.false_eq_true, if_false, if_true, le0, le1, le2, le3, le4, le5, Int.reduceAdd, Int.reduceMul, c_word_s _ _ _ hc, c_word_t _ _ _ _ hc, eqB_ss, Tm.w, Tm.ps, Tm.d, w_in_not, w_in_late, w_in_twice, w_in_half, w_in_change, w_in_count, w_in_by, w_in_keep, w_in_then, w_not_in, w_not_late, w_not_twice, w_not_half, w_not_change, w_not_count, w_not_by, w_not_keep, w_not_then, w_late_in, w_late_not, w_late_twice, w_late_half, w_late_change, w_late_count, w_late_by, w_late_keep, w_late_then, w_twice_in, w_twice_not, w_twice_late, w_twice_half, w_twice_change, w_twice_count, w_twice_by, w_twice_keep, w_twice_then, w_half_in, w_half_not, w_half_late, w_half_twice, w_half_change, w_half_count, w_half_by, w_half_keep, w_half_then, w_change_in, w_change_not, w_change_late, w_change_twice, w_change_half, w_change_count, w_change_by, w_change_keep, w_change_then, w_count_in, w_count_not, w_count_late, w_count_twice, w_count_half, w_count_change, w_count_by, w_count_keep, w_count_then, w_by_in, w_by_not, w_by_late, w_by_twice, w_by_half, w_by_change, w_by_count, w_by_keep, w_by_then, w_keep_in, w_keep_not, w_keep_late, w_keep_twice, w_keep_half, w_keep_change, w_keep_count, w_keep_by, w_keep_then, w_then_in, w_then_not, w_then_late, w_then_twice, w_then_half, w_then_change, w_then_count, w_then_by, w_then_keep, getF_not, getF_late, getF_twice, getF_half, getF_change, getF_count, getF_by, getF_keep, getF_then, cutD_1, cutD_2]; rw [fin_same (fr_lst (frl_cons (fr_tm _) (frl_cons (fr_tm _) frl_nil))) hc]
end Mc
set_option Elab.async false
set_option linter.all false
set_option maxRecDepth 100000
set_option maxHeartbeats 2000000
namespace Mc
open PySem PySem.Spec PyProof.Rows L2
/-! ### terms as data -/
def Tm.py : Tm → PyData
  | .inn => .str "in"
  | .un u t => .tuple [.str u.w, t.py]
  | .late c t => .tuple [.str "late", .str (sg c), t.py]
  | .bt a b c d t u => .tuple [.str "by", .str (bs [a, b, c, d]), t.py, u.py]
  | .kp t u => .tuple [.str "keep", t.py, u.py]
  | .th t u => .tuple [.str "then", t.py, u.py]
theorem py_tm : ∀ t : Tm, py0 t.d = some t.py
  | .inn => rfl
  | .un u t => by simp only [Tm.d, Tm.py, py0, py0L, py_tm t]
  | .late c t => by simp only [Tm.d, Tm.py, py0, py0L, py_tm t]
  | .bt a b c d t u => by simp only [Tm.d, Tm.py, py0, py0L, py_tm t, py_tm u]
  | .kp t u => by simp only [Tm.d, Tm.py, py0, py0L, py_tm t, py_tm u]
  | .th t u => by simp only [Tm.d, Tm.py, py0, py0L, py_tm t, py_tm u]
theorem ok_bs (l : List Bool) : PyData.strOk (bs l) = true := by
  unfold PyData.strOk bs
  rw [Array.all_eq_true]
  intro i hi
  simp only [List.getElem_toArray, List.getElem_map]
  cases l[i]'(by simpa using hi) <;> rfl
theorem ok_sg (b : Bool) : PyData.strOk (sg b) = true := ok_bs [b]
theorem ok_w (u : U) : PyData.strOk u.w = true := by cases u <;> decide +kernel
theorem ok_c : PyData.strOk (Str.ofString "in") = true ∧ PyData.strOk (Str.ofString "late") = true ∧ PyData.strOk (Str.ofString "by") = true ∧ PyData.strOk (Str.ofString "keep") = true ∧ PyData.strOk (Str.ofString "then") = true := by decide +kernel
theorem lay_tm : ∀ t : Tm, t.py.canLay0 = true
  | .inn => by simp only [Tm.py, PyData.canLay0]; exact ok_c.1
  | .un u t => by simp only [Tm.py, PyData.canLay0, PyData.canLayAll0, ok_w, lay_tm t, Bool.and_true]
  | .late c t => by simp only [Tm.py, PyData.canLay0, PyData.canLayAll0, ok_c.2.1, ok_sg, lay_tm t, Bool.and_true]
  | .bt a b c d t u => by simp only [Tm.py, PyData.canLay0, PyData.canLayAll0, ok_c.2.2.1, ok_bs, lay_tm t, lay_tm u, Bool.and_true]
  | .kp t u => by simp only [Tm.py, PyData.canLay0, PyData.canLayAll0, ok_c.2.2.2.1, lay_tm t, lay_tm u, Bool.and_true]
  | .th t u => by simp only [Tm.py, PyData.canLay0, PyData.canLayAll0, ok_c.2.2.2.2, lay_tm t, lay_tm u, Bool.and_true]
theorem dep_tm : ∀ t : Tm, t.py.depth ≤ t.sz
  | .inn => by simp [Tm.py, PyData.depth, Tm.sz]
  | .un u t => by have := dep_tm t; simp only [Tm.py, PyData.depth, PyData.depthAll, Tm.sz]; omega
  | .late c t => by have := dep_tm t; simp only [Tm.py, PyData.depth, PyData.depthAll, Tm.sz]; omega
  | .bt a b c d t u => by have := dep_tm t; have := dep_tm u; simp only [Tm.py, PyData.depth, PyData.depthAll, Tm.sz]; omega
  | .kp t u => by have := dep_tm t; have := dep_tm u; simp only [Tm.py, PyData.depth, PyData.depthAll, Tm.sz]; omega
  | .th t u => by have := dep_tm t; have := dep_tm u; simp only [Tm.py, PyData.depth, PyData.depthAll, Tm.sz]; omega
theorem shaped_tm {t : Tm} (h : t.sz ≤ 64) : SeqAt.shaped t.py = true := by
  unfold SeqAt.shaped
  rw [lay_tm t, decide_eq_true (Nat.le_trans (dep_tm t) h)]; rfl
theorem py_d (cs : Cells) (t : Tm) : py cs t.d = some t.py := by
  have h := py_tm t
  cases t <;> exact h
def Tm.isIn : Tm → Bool | .inn => true | _ => false
theorem eqP_in (cs : Cells) {t : Tm} (h : t.sz ≤ 64) (hi : t.isIn = false) : eqP cs t.d (.str "in") = some false := by
  unfold eqP
  rw [py_d]
  simp only [py, py0]
  have h2 : SeqAt.shaped (.str (Str.ofString "in")) = true := by decide +kernel
  rw [shaped_tm h, h2]
  cases t <;> first | (cases hi; done) | simp only [Tm.py, PyData.eqv, Bool.and_self, if_true]
theorem eqP_nil (cs : Cells) {t : Tm} (h : t.sz ≤ 64) : eqP cs t.d (.tup []) = some false := by
  unfold eqP
  rw [py_d]
  simp only [py, py0, py0L]
  have h2 : SeqAt.shaped (.tuple []) = true := by decide +kernel
  rw [shaped_tm h, h2]
  cases t <;> simp only [Tm.py, PyData.eqv, PyData.eqvAll, Bool.and_self, if_true]
/-- term == 'in' -/
theorem eq_in (cs : Cells) {t : Tm} (h : t.sz ≤ 64) : eqB cs t.d (.str "in") = some t.isIn := by
  cases t with
  | inn => simp only [Tm.d, eqB, beq_self_eq_true, Tm.isIn]
  | un u t => exact eqP_in cs (t := .un u t) h rfl
  | late c t => exact eqP_in cs (t := .late c t) h rfl
  | bt a b c d t u => exact eqP_in cs (t := .bt a b c d t u) h rfl
  | kp t u => exact eqP_in cs (t := .kp t u) h rfl
  | th t u => exact eqP_in cs (t := .th t u) h rfl
/-- term == () -/
theorem eq_nil (cs : Cells) {t : Tm} (h : t.sz ≤ 64) (hi : t.isIn = false) : eqB cs t.d (.tup []) = some false := by
  cases t with
  | inn => cases hi
  | un u t => exact eqP_nil cs (t := .un u t) h
  | late c t => exact eqP_nil cs (t := .late c t) h
  | bt a b c d t u => exact eqP_nil cs (t := .bt a b c d t u) h
  | kp t u => exact eqP_nil cs (t := .kp t u) h
  | th t u => exact eqP_nil cs (t := .th t u) h
/-! ### checks -/
theorem c_sign (n : Nat) (b : Bool) (cs : Cells) (hc : Fz cs) : P (n + 1) 0 [.str (sg b)] cs = some (.bl true, cs) := by
  rw [P_step (d := (td_is_sign 0).fd) rfl rfl]
  have hb : (sg b == Str.ofString "0" || (sg b == Str.ofString "1" || false)) = true := by cases b <;> decide +kernel
  have hb2 : ([D.str (Str.ofString "0"), D.str (Str.ofString "1")].any fun y => eqF y (.str (sg b))) = true := by cases b <;> decide +kernel
  simp only [td_is_sign, evSs, evS, evE, evT, evEs, evAnd, evOr, evTA, evTO, evG, evGs, evO, evC, evL, evI, cmpD, opD, augD, idxD, slcD, mtD, mtOk, biD, truD, seqOf, lstOf, srcL, List.map_cons, List.map_nil, List.cons_append, List.nil_append, List.getElem?_cons_zero, List.getElem?_cons_succ, List.getElem?_nil, List.set_cons_zero, List.set_cons_succ, List.length_cons, List.length_nil, List.replicate_succ, List.replicate_zero, Nat.reduceSub, Nat.reduceAdd, Bool.false_eq_true, if_false, if_true, le0, le1, le2, le3, le4, le5, Int.reduceAdd, Int.reduceMul, Bool.not_true, Bool.not_false, isi_ss, inB, flatB, List.all_cons, List.all_nil, Bool.and_self, hb2]
  rw [fin_same (fr_bl _) hc]
theorem c_text (n : Nat) (l : List Bool) (hl : l.length ≤ cap) (cs : Cells) (hc : Fz cs) : P (n + 1) 1 [.str (bs l)] cs = some (.bl true, cs) := by
  rw [P_step (d := (td_is_text 0).fd) rfl rfl]
  simp only [td_is_text, evSs, evS, evE, evT, evEs, evAnd, evOr, evTA, evTO, evG, evGs, evO, evC, evL, evI, cmpD, opD, augD, idxD, slcD, mtD, mtOk, biD, truD, seqOf, lstOf, srcL, List.map_cons, List.map_nil, List.cons_append, List.nil_append, List.getElem?_cons_zero, List.getElem?_cons_succ, List.getElem?_nil, List.set_cons_zero, List.set_cons_succ, List.length_cons, List.length_nil, List.replicate_succ, List.replicate_zero, Nat.reduceSub, Nat.reduceAdd, Bool.false_eq_true, if_false, if_true, le0, le1, le2, le3, le4, le5, Int.reduceAdd, Int.reduceMul, Bool.not_true, Bool.not_false, isi_ss, strip_bs, bs_len, if_pos hl, se, eqB_ss, beq_self_eq_true]
  rw [fin_same (fr_bl _) hc]
theorem c_upto (n : Nat) (l : List Bool) (k : Int) (hl : l.length ≤ cap) (hk : (l.length : Int) ≤ k) (cs : Cells) (hc : Fz cs) : P (n + 2) 2 [.str (bs l), .int k] cs = some (.bl true, cs) := by
  rw [P_step (d := (td_is_text_up_to 0).fd) rfl rfl]
  simp only [td_is_text_up_to, evSs, evS, evE, evT, evEs, evAnd, evOr, evTA, evTO, evG, evGs, evO, evC, evL, evI, cmpD, opD, augD, idxD, slcD, mtD, mtOk, biD, truD, seqOf, lstOf, srcL, List.map_cons, List.map_nil, List.cons_append, List.nil_append, List.getElem?_cons_zero, List.getElem?_cons_succ, List.getElem?_nil, List.set_cons_zero, List.set_cons_succ, List.length_cons, List.length_nil, List.replicate_succ, List.replicate_zero, Nat.reduceSub, Nat.reduceAdd, Bool.false_eq_true, if_false, if_true, le0, le1, le2, le3, le4, le5, Int.reduceAdd, Int.reduceMul, Bool.not_true, Bool.not_false, c_text n l hl cs hc, bs_len, if_pos hl, decide_eq_true hk]
  rw [fin_same (fr_bl _) hc]
theorem c_stream (n : Nat) (l : List Bool) (hl : l.length ≤ 1000) (cs : Cells) (hc : Fz cs) : P (n + 3) 3 [.str (bs l)] cs = some (.non, cs) := by
  rw [P_step (d := (td_check_stream 0).fd) rfl rfl]
  simp only [td_check_stream, evSs, evS, evE, evT, evEs, evAnd, evOr, evTA, evTO, evG, evGs, evO, evC, evL, evI, cmpD, opD, augD, idxD, slcD, mtD, mtOk, biD, truD, seqOf, lstOf, srcL, List.map_cons, List.map_nil, List.cons_append, List.nil_append, List.getElem?_cons_zero, List.getElem?_cons_succ, List.getElem?_nil, List.set_cons_zero, List.set_cons_succ, List.length_cons, List.length_nil, List.replicate_succ, List.replicate_zero, Nat.reduceSub, Nat.reduceAdd, Bool.false_eq_true, if_false, if_true, le0, le1, le2, le3, le4, le5, Int.reduceAdd, Int.reduceMul, Bool.not_true, Bool.not_false, c_upto n l 1000 (Nat.le_trans hl (by decide)) (by omega) cs hc, Bool.not_true]
  rw [fin_same fr_non hc]
theorem ctn_not : (["not", "late", "twice", "half", "change", "count", "by", "keep", "then"] : List Str).contains (Str.ofString "not") = true := by decide +kernel
theorem ctn_late : (["not", "late", "twice", "half", "change", "count", "by", "keep", "then"] : List Str).contains (Str.ofString "late") = true := by decide +kernel
theorem ctn_twice : (["not", "late", "twice", "half", "change", "count", "by", "keep", "then"] : List Str).contains (Str.ofString "twice") = true := by decide +kernel
theorem ctn_half : (["not", "late", "twice", "half", "change", "count", "by", "keep", "then"] : List Str).contains (Str.ofString "half") = true := by decide +kernel
theorem ctn_change : (["not", "late", "twice", "half", "change", "count", "by", "keep", "then"] : List Str).contains (Str.ofString "change") = true := by decide +kernel
theorem ctn_count : (["not", "late", "twice", "half", "change", "count", "by", "keep", "then"] : List Str).contains (Str.ofString "count") = true := by decide +kernel
theorem ctn_by : (["not", "late", "twice", "half", "change", "count", "by", "keep", "then"] : List Str).contains (Str.ofString "by") = true := by decide +kernel
theorem ctn_keep : (["not", "late", "twice", "half", "change", "count", "by", "keep", "then"] : List Str).contains (Str.ofString "keep") = true := by decide +kernel
theorem ctn_then : (["not", "late", "twice", "half", "change", "count", "by", "keep", "then"] : List Str).contains (Str.ofString "then") = true := by decide +kernel
theorem ci2 : ((2 : Nat) : Int) = 2 := rfl
theorem ci3 : ((3 : Nat) : Int) = 3 := rfl
theorem ci4 : ((4 : Nat) : Int) = 4 := rfl
theorem len4 (a b c d : Bool) : (bs [a, b, c, d]).length = 4 := rfl
theorem c_node (n : Nat) {t : Tm} (h : t.sz ≤ 64) (cs : Cells) (hc : Fz cs) : P (n + 2) 9 [t.d] cs = some (.bl true, cs) := by
  rw [P_step (d := (td_is_node 0).fd) rfl rfl]
  have hn := eq_nil cs h
  cases t with
  | inn =>
    simp only [td_is_node, Tm.d, evSs, evS, evE, evT, evEs, evAnd, evOr, evTA, evTO, evG, evGs, evO, evC, evL, evI, cmpD, opD, augD, idxD, slcD, mtD, mtOk, biD, truD, seqOf, lstOf, srcL, List.map_cons, List.map_nil, List.cons_append, List.nil_append, List.getElem?_cons_zero, List.getElem?_cons_succ, List.getElem?_nil, List.set_cons_zero, List.set_cons_succ, List.length_cons, List.length_nil, List.replicate_succ, List.replicate_zero, Nat.reduceSub, Nat.reduceAdd, Bool.false_eq_true, if_false, if_true, le0, le1, le2, le3, le4, le5, Int.reduceAdd, Int.reduceMul, Bool.not_true, Bool.not_false, isi_ss, isi_st, Bool.not_false, eqB_ss, beq_self_eq_true]
    rw [fin_same (fr_bl _) hc]
  | un u t =>
    have hn := hn rfl
    cases u <;> (simp only [Tm.d, U.w] at hn; simp only [td_is_node, Tm.d, U.w, evSs, evS, evE, evT, evEs, evAnd, evOr, evTA, evTO, evG, evGs, evO, evC, evL, evI, cmpD, opD, augD, idxD, slcD, mtD, mtOk, biD, truD, seqOf, lstOf, srcL, List.map_cons, List.map_nil, List.cons_append, List.nil_append, List.getElem?_cons_zero, List.getElem?_cons_succ, List.getElem?_nil, List.set_cons_zero, List.set_cons_succ, List.length_cons, List.length_nil, List.replicate_succ, List.replicate_zero, Nat.reduceSub, Nat.reduceAdd, Bool.false_eq_true, if_false, if_true, le0, le1, le2, le3, le4, le5, Int.reduceAdd, Int.reduceMul, Bool.not_true, Bool.not_false, isi_ss, isi_tt, Bool.not_true, hn, atI_0, eqB_ss, eqB_ii, w_in_not, w_in_late, w_in_twice, w_in_half, w_in_change, w_in_count, w_in_by, w_in_keep, w_in_then, w_not_in, w_not_late, w_not_twice, w_not_half, w_not_change, w_not_count, w_not_by, w_not_keep, w_not_then, w_late_in, w_late_not, w_late_twice, w_late_half, w_late_change, w_late_count, w_late_by, w_late_keep, w_late_then, w_twice_in, w_twice_not, w_twice_late, w_twice_half, w_twice_change, w_twice_count, w_twice_by, w_twice_keep, w_twice_then, w_half_in, w_half_not, w_half_late, w_half_twice, w_half_change, w_half_count, w_half_by, w_half_keep, w_half_then, w_change_in, w_change_not, w_change_late, w_change_twice, w_change_half, w_change_count, w_change_by, w_change_keep, w_change_then, w_count_in, w_count_not, w_count_late, w_count_twice, w_count_half, w_count_change, w_count_by, w_count_keep, w_count_then, w_by_in, w_by_not, w_by_late, w_by_twice, w_by_half, w_by_change, w_by_count, w_by_keep, w_by_then, w_keep_in, w_keep_not, w_keep_late, w_keep_twice, w_keep_half, w_keep_change, w_keep_count, w_keep_by, w_keep_then, w_then_in, w_then_not, w_then_late, w_then_twice, w_then_half, w_then_change, w_then_count, w_then_by, w_then_keep, getF_not, getF_late, getF_twice, getF_half, getF_change, getF_count, getF_by, getF_keep, getF_then, ctn_not, ctn_late, ctn_twice, ctn_half, ctn_change, ctn_count, ctn_by, ctn_keep, ctn_then, intsOf, List.sum_cons, List.sum_nil, ci2, ci3, ci4, beq_self_eq_true, Bool.not_true]; rw [fin_same (fr_bl _) hc])
  | late c t =>
    have hn := hn rfl
    simp only [Tm.d] at hn
    simp only [td_is_node, Tm.d, evSs, evS, evE, evT, evEs, evAnd, evOr, evTA, evTO, evG, evGs, evO, evC, evL, evI, cmpD, opD, augD, idxD, slcD, mtD, mtOk, biD, truD, seqOf, lstOf, srcL, List.map_cons, List.map_nil, List.cons_append, List.nil_append, List.getElem?_cons_zero, List.getElem?_cons_succ, List.getElem?_nil, List.set_cons_zero, List.set_cons_succ, List.length_cons, List.length_nil, List.replicate_succ, List.replicate_zero, Nat.reduceSub, Nat.reduceAdd, Bool.false_eq_true, if_false, if_true, le0, le1, le2, le3, le4, le5, Int.reduceAdd, Int.reduceMul, Bool.not_true, Bool.not_false, isi_ss, isi_tt, Bool.not_true, hn, atI_0, atI_1, eqB_ss, eqB_ii, w_in_not, w_in_late, w_in_twice, w_in_half, w_in_change, w_in_count, w_in_by, w_in_keep, w_in_then, w_not_in, w_not_late, w_not_twice, w_not_half, w_not_change, w_not_count, w_not_by, w_not_keep, w_not_then, w_late_in, w_late_not, w_late_twice, w_late_half, w_late_change, w_late_count, w_late_by, w_late_keep, w_late_then, w_twice_in, w_twice_not, w_twice_late, w_twice_half, w_twice_change, w_twice_count, w_twice_by, w_twice_keep, w_twice_then, w_half_in, w_half_not, w_half_late, w_half_twice, w_half_change, w_half_count, w_half_by, w_half_keep, w_half_then, w_change_in, w_change_not, w_change_late, w_change_twice, w_change_half, w_change_count, w_change_by, w_change_keep, w_change_then, w_count_in, w_count_not, w_count_late, w_count_twice, w_count_half, w_count_change, w_count_by, w_count_keep, w_count_then, w_by_in, w_by_not, w_by_late, w_by_twice, w_by_half, w_by_change, w_by_count, w_by_keep, w_by_then, w_keep_in, w_keep_not, w_keep_late, w_keep_twice, w_keep_half, w_keep_change, w_keep_count, w_keep_by, w_keep_then, w_then_in, w_then_not, w_then_late, w_then_twice, w_then_half, w_then_change, w_then_count, w_then_by, w_then_keep, getF_not, getF_late, getF_twice, getF_half, getF_change, getF_count, getF_by, getF_keep, getF_then, ctn_not, ctn_late, ctn_twice, ctn_half, ctn_change, ctn_count, ctn_by, ctn_keep, ctn_then, intsOf, List.sum_cons, List.sum_nil, ci2, ci3, ci4, beq_self_eq_true, c_sign _ _ _ hc]
    rw [fin_same (fr_bl _) hc]
  | bt a b c d t u =>
    have hn := hn rfl
    simp only [Tm.d] at hn
    simp only [td_is_node, Tm.d, evSs, evS, evE, evT, evEs, evAnd, evOr, evTA, evTO, evG, evGs, evO, evC, evL, evI, cmpD, opD, augD, idxD, slcD, mtD, mtOk, biD, truD, seqOf, lstOf, srcL, List.map_cons, List.map_nil, List.cons_append, List.nil_append, List.getElem?_cons_zero, List.getElem?_cons_succ, List.getElem?_nil, List.set_cons_zero, List.set_cons_succ, List.length_cons, List.length_nil, List.replicate_succ, List.replicate_zero, Nat.reduceSub, Nat.reduceAdd, Bool.false_eq_true, if_false, if_true, le0, le1, le2, le3, le4, le5, Int.reduceAdd, Int.reduceMul, Bool.not_true, Bool.not_false, isi_ss, isi_tt, Bool.not_true, hn, atI_0, atI_1, eqB_ss, eqB_ii, w_in_not, w_in_late, w_in_twice, w_in_half, w_in_change, w_in_count, w_in_by, w_in_keep, w_in_then, w_not_in, w_not_late, w_not_twice, w_not_half, w_not_change, w_not_count, w_not_by, w_not_keep, w_not_then, w_late_in, w_late_not, w_late_twice, w_late_half, w_late_change, w_late_count, w_late_by, w_late_keep, w_late_then, w_twice_in, w_twice_not, w_twice_late, w_twice_half, w_twice_change, w_twice_count, w_twice_by, w_twice_keep, w_twice_then, w_half_in, w_half_not, w_half_late, w_half_twice, w_half_change, w_half_count, w_half_by, w_half_keep, w_half_then, w_change_in, w_change_not, w_change_late, w_change_twice, w_change_half, w_change_count, w_change_by, w_change_keep, w_change_then, w_count_in, w_count_not, w_count_late, w_count_twice, w_count_half, w_count_change, w_count_by, w_count_keep, w_count_then, w_by_in, w_by_not, w_by_late, w_by_twice, w_by_half, w_by_change, w_by_count, w_by_keep, w_by_then, w_keep_in, w_keep_not, w_keep_late, w_keep_twice, w_keep_half, w_keep_change, w_keep_count, w_keep_by, w_keep_then, w_then_in, w_then_not, w_then_late, w_then_twice, w_then_half, w_then_change, w_then_count, w_then_by, w_then_keep, getF_not, getF_late, getF_twice, getF_half, getF_change, getF_count, getF_by, getF_keep, getF_then, ctn_not, ctn_late, ctn_twice, ctn_half, ctn_change, ctn_count, ctn_by, ctn_keep, ctn_then, intsOf, List.sum_cons, List.sum_nil, ci2, ci3, ci4, beq_self_eq_true, c_text n [a, b, c, d] (show 4 ≤ cap by decide) cs hc, len4]
    rw [fin_same (fr_bl _) hc]
  | kp t u =>
    have hn := hn rfl
    simp only [Tm.d] at hn
    simp only [td_is_node, Tm.d, evSs, evS, evE, evT, evEs, evAnd, evOr, evTA, evTO, evG, evGs, evO, evC, evL, evI, cmpD, opD, augD, idxD, slcD, mtD, mtOk, biD, truD, seqOf, lstOf, srcL, List.map_cons, List.map_nil, List.cons_append, List.nil_append, List.getElem?_cons_zero, List.getElem?_cons_succ, List.getElem?_nil, List.set_cons_zero, List.set_cons_succ, List.length_cons, List.length_nil, List.replicate_succ, List.replicate_zero, Nat.reduceSub, Nat.reduceAdd, Bool.false_eq_true, if_false, if_true, le0, le1, le2, le3, le4, le5, Int.reduceAdd, Int.reduceMul, Bool.not_true, Bool.not_false, isi_ss, isi_tt, Bool.not_true, hn, atI_0, atI_1, eqB_ss, eqB_ii, w_in_not, w_in_late, w_in_twice, w_in_half, w_in_change, w_in_count, w_in_by, w_in_keep, w_in_then, w_not_in, w_not_late, w_not_twice, w_not_half, w_not_change, w_not_count, w_not_by, w_not_keep, w_not_then, w_late_in, w_late_not, w_late_twice, w_late_half, w_late_change, w_late_count, w_late_by, w_late_keep, w_late_then, w_twice_in, w_twice_not, w_twice_late, w_twice_half, w_twice_change, w_twice_count, w_twice_by, w_twice_keep, w_twice_then, w_half_in, w_half_not, w_half_late, w_half_twice, w_half_change, w_half_count, w_half_by, w_half_keep, w_half_then, w_change_in, w_change_not, w_change_late, w_change_twice, w_change_half, w_change_count, w_change_by, w_change_keep, w_change_then, w_count_in, w_count_not, w_count_late, w_count_twice, w_count_half, w_count_change, w_count_by, w_count_keep, w_count_then, w_by_in, w_by_not, w_by_late, w_by_twice, w_by_half, w_by_change, w_by_count, w_by_keep, w_by_then, w_keep_in, w_keep_not, w_keep_late, w_keep_twice, w_keep_half, w_keep_change, w_keep_count, w_keep_by, w_keep_then, w_then_in, w_then_not, w_then_late, w_then_twice, w_then_half, w_then_change, w_then_count, w_then_by, w_then_keep, getF_not, getF_late, getF_twice, getF_half, getF_change, getF_count, getF_by, getF_keep, getF_then, ctn_not, ctn_late, ctn_twice, ctn_half, ctn_change, ctn_count, ctn_by, ctn_keep, ctn_then, intsOf, List.sum_cons, List.sum_nil, ci2, ci3, ci4, beq_self_eq_true]
    rw [fin_same (fr_bl _) hc]
  | th t u =>
    have hn := hn rfl
    simp only [Tm.d] at hn
    simp only [td_is_node, Tm.d, evSs, evS, evE, evT, evEs, evAnd, evOr, evTA, evTO, evG, evGs, evO, evC, evL, evI, cmpD, opD, augD, idxD, slcD, mtD, mtOk, biD, truD, seqOf, lstOf, srcL, List.map_cons, List.map_nil, List.cons_append, List.nil_append, List.getElem?_cons_zero, List.getElem?_cons_succ, List.getElem?_nil, List.set_cons_zero, List.set_cons_succ, List.length_cons, List.length_nil, List.replicate_succ, List.replicate_zero, Nat.reduceSub, Nat.reduceAdd, Bool.false_eq_true, if_false, if_true, le0, le1, le2, le3, le4, le5, Int.reduceAdd, Int.reduceMul, Bool.not_true, Bool.not_false, isi_ss, isi_tt, Bool.not_true, hn, atI_0, atI_1, eqB_ss, eqB_ii, w_in_not, w_in_late, w_in_twice, w_in_half, w_in_change, w_in_count, w_in_by, w_in_keep, w_in_then, w_not_in, w_not_late, w_not_twice, w_not_half, w_not_change, w_not_count, w_not_by, w_not_keep, w_not_then, w_late_in, w_late_not, w_late_twice, w_late_half, w_late_change, w_late_count, w_late_by, w_late_keep, w_late_then, w_twice_in, w_twice_not, w_twice_late, w_twice_half, w_twice_change, w_twice_count, w_twice_by, w_twice_keep, w_twice_then, w_half_in, w_half_not, w_half_late, w_half_twice, w_half_change, w_half_count, w_half_by, w_half_keep, w_half_then, w_change_in, w_change_not, w_change_late, w_change_twice, w_change_half, w_change_count, w_change_by, w_change_keep, w_change_then, w_count_in, w_count_not, w_count_late, w_count_twice, w_count_half, w_count_change, w_count_by, w_count_keep, w_count_then, w_by_in, w_by_not, w_by_late, w_by_twice, w_by_half, w_by_change, w_by_count, w_by_keep, w_by_then, w_keep_in, w_keep_not, w_keep_late, w_keep_twice, w_keep_half, w_keep_change, w_keep_count, w_keep_by, w_keep_then, w_then_in, w_then_not, w_then_late, w_then_twice, w_then_half, w_then_change, w_then_count, w_then_by, w_then_keep, getF_not, getF_late, getF_twice, getF_half, getF_change, getF_count, getF_by, getF_keep, getF_then, ctn_not, ctn_late, ctn_twice, ctn_half, ctn_change, ctn_count, ctn_by, ctn_keep, ctn_then, intsOf, List.sum_cons, List.sum_nil, ci2, ci3, ci4, beq_self_eq_true]
    rw [fin_same (fr_bl _) hc]
end Mc
set_option Elab.async false
set_option linter.all false
set_option maxRecDepth 100000
set_option maxHeartbeats 2000000
namespace Mc
open PySem PySem.Spec PyProof.Rows L2
theorem cell_at1 (cs : Cells) (c : Cell) : (cs ++ [c])[cs.length]? = some c := by rw [List.getElem?_append_right (Nat.le_refl _)]; simp
theorem cell_set1 (cs : Cells) (c c' : Cell) : (cs ++ [c]).set cs.length c' = cs ++ [c'] := by rw [List.set_append_right _ _ (Nat.le_refl _)]; simp
theorem fz_app {cs : Cells} {ds : List D} (h : Fz cs) (hd : FrL ds) : Fz (cs ++ [.lst ds]) := by
  intro g
  have key : ∀ (cs : Cells), rsvC g cs = some cs → rsvC g (cs ++ [.lst ds]) = some (cs ++ [.lst ds]) := by
    intro cs
    induction cs with
    | nil => intro _; exact fz_cons hd fz_nil g
    | cons c r ih =>
      intro h
      cases c with
      | lst xs =>
        rw [List.cons_append]
        simp only [rsvC] at h ⊢
        cases e1 : rsvL g xs with
        | none => rw [e1] at h; cases h
        | some ys =>
          cases e2 : rsvC g r with
          | none => rw [e1, e2] at h; cases h
          | some zs =>
            rw [e1, e2] at h
            simp only [Option.some.injEq, List.cons.injEq, Cell.lst.injEq] at h
            obtain ⟨rfl, rfl⟩ := h
            rw [ih e2]
      | dct ks xs =>
        rw [List.cons_append]
        simp only [rsvC] at h ⊢
        cases e1 : rsvL g xs with
        | none => rw [e1] at h; cases h
        | some ys =>
          cases e2 : rsvC g r with
          | none => rw [e1, e2] at h; cases h
          | some zs =>
            rw [e1, e2] at h
            simp only [Option.some.injEq, List.cons.injEq, Cell.dct.injEq, true_and] at h
            obtain ⟨rfl, rfl⟩ := h
            rw [ih e2]
      | ins k ks xs =>
        rw [List.cons_append]
        simp only [rsvC] at h ⊢
        cases e1 : rsvL g xs with
        | none => rw [e1] at h; cases h
        | some ys =>
          cases e2 : rsvC g r with
          | none => rw [e1, e2] at h; cases h
          | some zs =>
            rw [e1, e2] at h
            simp only [Option.some.injEq, List.cons.injEq, Cell.ins.injEq, true_and] at h
            obtain ⟨rfl, rfl⟩ := h
            rw [ih e2]
  exact key cs (h g)
/-! ### is_term -/
def Tm.pt : Tm → List Tm
  | .inn => [] | .un _ t => [t] | .late _ t => [t] | .bt _ _ _ _ t u => [t, u] | .kp t u => [t, u] | .th t u => [t, u]
theorem pt_ps (t : Tm) : t.ps = t.pt.map Tm.d := by cases t <;> rfl
def szs (ts : List Tm) : Nat := (ts.map Tm.sz).sum
theorem szs_app (a b : List Tm) : szs (a ++ b) = szs a + szs b := by simp [szs]
theorem szs_pt (t : Tm) : szs t.pt + 1 = t.sz := by cases t <;> simp [szs, Tm.pt, Tm.sz]
theorem pt_le {t x : Tm} (h : x ∈ t.pt) : x.sz ≤ t.sz := by
  cases t <;> simp [Tm.pt] at h <;> (try rcases h with rfl | rfl) <;> (try subst h) <;> simp only [Tm.sz] <;> omega
theorem frl_tms (ts : List Tm) : FrL (ts.map Tm.d) := frl_of fun d hd => by obtain ⟨t, _, rfl⟩ := List.mem_map.mp hd; exact fr_tm t
theorem py0L_tms : ∀ ts : List Tm, py0L (ts.map Tm.d) = some (ts.map Tm.py)
  | [] => rfl
  | t :: r => by simp only [List.map_cons, py0L, py_tm, py0L_tms r]
theorem lays_tms : ∀ ts : List Tm, PyData.canLayAll0 (ts.map Tm.py) = true
  | [] => by simp only [List.map_nil, PyData.canLayAll0]
  | t :: r => by simp only [List.map_cons, PyData.canLayAll0, lay_tm, lays_tms r, Bool.and_self]
theorem deps_tms : ∀ ts : List Tm, (∀ t ∈ ts, t.sz ≤ 60) → PyData.depthAll (ts.map Tm.py) ≤ 60
  | [], _ => by simp only [List.map_nil, PyData.depthAll]; omega
  | t :: r, h => by
    have h1 := Nat.le_trans (dep_tm t) (h t List.mem_cons_self)
    have h2 := deps_tms r fun x hx => h x (List.mem_cons_of_mem _ hx)
    simp only [List.map_cons, PyData.depthAll]; omega
theorem eq_wait (cs : Cells) (ts : List Tm) (h : ∀ t ∈ ts, t.sz ≤ 60) : eqB (cs ++ [.lst (ts.map Tm.d)]) (.ref cs.length) (.lst []) = some ts.isEmpty := by
  show eqP _ _ _ = _
  unfold eqP
  have e1 : py (cs ++ [.lst (ts.map Tm.d)]) (.ref cs.length) = some (.list (ts.map Tm.py)) := by
    simp only [py, cell_at1, py0L_tms]
  rw [e1]
  simp only [py, py0, py0L]
  have h2 : SeqAt.shaped (.list []) = true := by decide +kernel
  have h3 : SeqAt.shaped (.list (ts.map Tm.py)) = true := by
    unfold SeqAt.shaped
    have := deps_tms ts h
    rw [Bool.and_eq_true]
    exact ⟨by simp only [PyData.canLay0]; exact lays_tms ts, decide_eq_true (by simp only [PyData.depth]; omega)⟩
  rw [h3, h2]
  cases ts <;> simp only [List.map_cons, List.map_nil, PyData.eqv, PyData.eqvAll, Bool.and_self, if_true, List.isEmpty_nil, List.isEmpty_cons]
def itC : E := (.cmp .NotEq (.var 1) (.new false (.disp .nil)))
def itB : Ss := (.cons (.asg (.nm 3) (.mt .pop (.var 1) .nil)) (.cons (.aug 2 .Add (.cst (.int 1))) (.cons (.ifs (.or (.cons (.cmp .Gt (.var 2) (.glo "_MOST_NODES" (.int 9))) (.cons (.not (.call 9 (.cons (.var 3) .nil))) .nil))) (.cons (.ret (.cst (.bl false))) .nil) .nil) (.cons (.ex (.mt .extend (.var 1) (.cons (.call 7 (.cons (.var 3) .nil)) .nil))) .nil))))
theorem it_cond (n : Nat) (cs : Cells) (ts : List Tm) (h : ∀ t ∈ ts, t.sz ≤ 60) (a c d : Option D) : evT (P n) itC [a, some (.ref cs.length), c, d] (cs ++ [.lst (ts.map Tm.d)]) = some (!ts.isEmpty, cs ++ [.lst (ts.map Tm.d)]) := by
  simp only [itC, evSs, evS, evE, evT, evEs, evAnd, evOr, evTA, evTO, evG, evGs, evO, evC, evL, evI, cmpD, opD, augD, idxD, slcD, mtD, mtOk, biD, truD, seqOf, lstOf, srcL, List.map_cons, List.map_nil, List.cons_append, List.nil_append, List.getElem?_cons_zero, List.getElem?_cons_succ, List.getElem?_nil, List.set_cons_zero, List.set_cons_succ, List.length_cons, List.length_nil, List.replicate_succ, List.replicate_zero, Nat.reduceSub, Nat.reduceAdd, Bool.false_eq_true, if_false, if_true, le0, le1, le2, le3, le4, le5, Int.reduceAdd, Int.reduceMul, Bool.not_true, Bool.not_false, eq_wait cs ts h]
theorem it_step (n : Nat) (cs : Cells) (hc : Fz cs) (l : List Tm) (x : Tm) (k : Nat) (hx : x.sz ≤ 60) (hl : l.length ≤ 1000) (a d : Option D) :
    evSs (P (n + 2)) 1000 itB [a, some (.ref cs.length), some (.int k), d] (cs ++ [.lst ((l ++ [x]).map Tm.d)]) = (if 9 ≤ k then some (.rt (.bl false) (cs ++ [.lst (l.map Tm.d)])) else some (.nx [a, some (.ref cs.length), some (.int ((k + 1 : Nat) : Int)), some x.d] (cs ++ [.lst ((l ++ x.pt).map Tm.d)]))) := by
  have e1 : ((l ++ [x]).map Tm.d)[((l ++ [x]).map Tm.d).length - 1]? = some x.d := by simp
  have e2 : ((l ++ [x]).map Tm.d).dropLast = l.map Tm.d := by simp
  have hf := fz_app hc (frl_tms l)
  have h3 := c_node n (t := x) (by omega) _ hf
  have h4 := c_parts n x _ hf
  have e5 : (l.map Tm.d).length + x.ps.length ≤ cap := by
    have : x.ps.length ≤ 2 := by cases x <;> simp [Tm.ps]
    have h : 1002 ≤ cap := by decide
    rw [List.length_map]; omega
  have e6 : l.map Tm.d ++ x.ps = (l ++ x.pt).map Tm.d := by rw [pt_ps, List.map_append]
  have e7 : ((k : Int) + 1) = ((k + 1 : Nat) : Int) := by omega
  by_cases hk : 9 ≤ k
  · have e8 : decide ((9 : Int) < ((k + 1 : Nat) : Int)) = true := decide_eq_true (by omega)
    simp only [itB, evSs, evS, evE, evT, evEs, evAnd, evOr, evTA, evTO, evG, evGs, evO, evC, evL, evI, cmpD, opD, augD, idxD, slcD, mtD, mtOk, biD, truD, seqOf, lstOf, srcL, List.map_cons, List.map_nil, List.cons_append, List.nil_append, List.getElem?_cons_zero, List.getElem?_cons_succ, List.getElem?_nil, List.set_cons_zero, List.set_cons_succ, List.length_cons, List.length_nil, List.replicate_succ, List.replicate_zero, Nat.reduceSub, Nat.reduceAdd, Bool.false_eq_true, if_false, if_true, le0, le1, le2, le3, le4, le5, Int.reduceAdd, Int.reduceMul, Bool.not_true, Bool.not_false, cell_at1, e1, e2, cell_set1, e7, e8, if_pos hk]
  · have e8 : decide ((9 : Int) < ((k + 1 : Nat) : Int)) = false := decide_eq_false (by omega)
    simp only [itB, evSs, evS, evE, evT, evEs, evAnd, evOr, evTA, evTO, evG, evGs, evO, evC, evL, evI, cmpD, opD, augD, idxD, slcD, mtD, mtOk, biD, truD, seqOf, lstOf, srcL, List.map_cons, List.map_nil, List.cons_append, List.nil_append, List.getElem?_cons_zero, List.getElem?_cons_succ, List.getElem?_nil, List.set_cons_zero, List.set_cons_succ, List.length_cons, List.length_nil, List.replicate_succ, List.replicate_zero, Nat.reduceSub, Nat.reduceAdd, Bool.false_eq_true, if_false, if_true, le0, le1, le2, le3, le4, le5, Int.reduceAdd, Int.reduceMul, Bool.not_true, Bool.not_false, cell_at1, e1, e2, cell_set1, e7, e8, if_neg hk, h3, h4, if_pos e5, e6]

theorem it_loop (n : Nat) (cs : Cells) (hc : Fz cs) (a : Option D) : ∀ (m : Nat) (ts : List Tm) (k : Nat) (d : Option D), k ≤ 9 → 11 ≤ k + m → ts.length + szs ts ≤ 900 → (∀ t ∈ ts, t.sz ≤ 60) →
    ∃ c, (k + szs ts ≤ 9 → ∃ env, whlGo (fun env1 cs1 => evT (P (n + 2)) itC env1 cs1) (fun env1 cs1 => evSs (P (n + 2)) 1000 itB env1 cs1) m [a, some (.ref cs.length), some (.int k), d] (cs ++ [.lst (ts.map Tm.d)]) = some (.nx env (cs ++ [c]))) ∧
      (9 < k + szs ts → whlGo (fun env1 cs1 => evT (P (n + 2)) itC env1 cs1) (fun env1 cs1 => evSs (P (n + 2)) 1000 itB env1 cs1) m [a, some (.ref cs.length), some (.int k), d] (cs ++ [.lst (ts.map Tm.d)]) = some (.rt (.bl false) (cs ++ [c])))
  | 0, ts, k, d, hk, hm, _, _ => by omega
  | m + 1, ts, k, d, hk, hm, hl, h => by
    have hcond := it_cond (n + 2) cs ts h a (some (.int k)) d
    rcases List.eq_nil_or_concat ts with rfl | ⟨l, x, rfl⟩
    · refine ⟨.lst [], fun _ => ⟨[a, some (.ref cs.length), some (.int k), d], ?_⟩, fun h9 => by simp [szs] at h9; omega⟩
      unfold whlGo
      rw [hcond]; rfl
    · rw [List.concat_eq_append] at *
      have hx := h x (by simp)
      have hl' : l.length ≤ 1000 := by simp at hl; omega
      have hstep := it_step n cs hc l x k hx hl' a d
      have es : szs (l ++ [x]) = szs l + x.sz := by rw [szs_app]; simp [szs]
      have e1 : ((l ++ [x]).isEmpty) = false := by simp
      simp only [e1, Bool.not_false] at hcond
      by_cases h9 : 9 ≤ k
      · rw [if_pos h9] at hstep
        have hp := x.sz_pos
        refine ⟨.lst (l.map Tm.d), fun c => by omega, fun _ => ?_⟩
        unfold whlGo
        rw [hcond]; dsimp only; rw [hstep]
      · rw [if_neg h9] at hstep
        have ep := szs_pt x
        have es2 : szs (l ++ x.pt) = szs l + szs x.pt := szs_app _ _
        have lp : x.pt.length ≤ 2 := by cases x <;> simp [Tm.pt]
        obtain ⟨c, g1, g2⟩ := it_loop n cs hc a m (l ++ x.pt) (k + 1) (some x.d) (by omega) (by omega) (by rw [List.length_append]; simp at hl; omega) (fun t ht => by
          rcases List.mem_append.mp ht with ht | ht
          · exact h t (List.mem_append_left _ ht)
          · exact Nat.le_trans (pt_le ht) hx)
        refine ⟨c, fun q => ?_, fun q => ?_⟩
        · obtain ⟨env, g⟩ := g1 (by omega)
          refine ⟨env, ?_⟩
          unfold whlGo
          rw [hcond]; dsimp only; rw [hstep]
          exact g
        · unfold whlGo
          rw [hcond]; dsimp only; rw [hstep]
          exact g2 (by omega)
theorem it_body : (td_is_term 0).fd.body = (.cons (.asg (.nm 1) (.new true (.disp (.cons (.var 0) .nil)))) (.cons (.asg (.nm 2) (.cst (.int 0))) (.cons (.whl itC itB) (.cons (.ret (.cst (.bl true))) .nil)))) := rfl
theorem c_isterm (n : Nat) {t : Tm} (h : t.sz ≤ 60) (cs : Cells) (hc : Fz cs) : P (n + 3) 4 [t.d] cs = some (.bl (decide (t.sz ≤ 9)), cs) := by
  rw [P_step (d := (td_is_term 0).fd) rfl rfl, it_body]
  obtain ⟨c, g1, g2⟩ := it_loop n cs hc (some t.d) 1000 [t] 0 none (by omega) (by omega) (by simp [szs]; omega) (fun x hx => by simp at hx; subst hx; exact h)
  have e : szs [t] = t.sz := by simp [szs]
  rw [e] at g1 g2
  by_cases h9 : t.sz ≤ 9
  · obtain ⟨env, g⟩ := g1 (by omega)
    rw [decide_eq_true h9]
    simp only [List.map_cons, List.map_nil, Int.natCast_zero] at g
    simp only [evSs, evS, evE, evT, evEs, evAnd, evOr, evTA, evTO, evG, evGs, evO, evC, evL, evI, cmpD, opD, augD, idxD, slcD, mtD, mtOk, biD, truD, seqOf, lstOf, srcL, List.map_cons, List.map_nil, List.cons_append, List.nil_append, List.getElem?_cons_zero, List.getElem?_cons_succ, List.getElem?_nil, List.set_cons_zero, List.set_cons_succ, List.length_cons, List.length_nil, List.replicate_succ, List.replicate_zero, Nat.reduceSub, Nat.reduceAdd, Bool.false_eq_true, if_false, if_true, le0, le1, le2, le3, le4, le5, Int.reduceAdd, Int.reduceMul, Bool.not_true, Bool.not_false, td_is_term, g]
    exact fin_at (fr_bl _) hc
  · have g := g2 (by omega)
    rw [decide_eq_false h9]
    simp only [List.map_cons, List.map_nil, Int.natCast_zero] at g
    simp only [evSs, evS, evE, evT, evEs, evAnd, evOr, evTA, evTO, evG, evGs, evO, evC, evL, evI, cmpD, opD, augD, idxD, slcD, mtD, mtOk, biD, truD, seqOf, lstOf, srcL, List.map_cons, List.map_nil, List.cons_append, List.nil_append, List.getElem?_cons_zero, List.getElem?_cons_succ, List.getElem?_nil, List.set_cons_zero, List.set_cons_succ, List.length_cons, List.length_nil, List.replicate_succ, List.replicate_zero, Nat.reduceSub, Nat.reduceAdd, Bool.false_eq_true, if_false, if_true, le0, le1, le2, le3, le4, le5, Int.reduceAdd, Int.reduceMul, Bool.not_true, Bool.not_false, td_is_term, g]
    exact fin_at (fr_bl _) hc
theorem c_checkterm (n : Nat) {t : Tm} (h : t.sz ≤ 9) (cs : Cells) (hc : Fz cs) : P (n + 4) 5 [t.d] cs = some (.non, cs) := by
  rw [P_step (d := (td_check_term 0).fd) rfl rfl]
  simp only [td_check_term, evSs, evS, evE, evT, evEs, evAnd, evOr, evTA, evTO, evG, evGs, evO, evC, evL, evI, cmpD, opD, augD, idxD, slcD, mtD, mtOk, biD, truD, seqOf, lstOf, srcL, List.map_cons, List.map_nil, List.cons_append, List.nil_append, List.getElem?_cons_zero, List.getElem?_cons_succ, List.getElem?_nil, List.set_cons_zero, List.set_cons_succ, List.length_cons, List.length_nil, List.replicate_succ, List.replicate_zero, Nat.reduceSub, Nat.reduceAdd, Bool.false_eq_true, if_false, if_true, le0, le1, le2, le3, le4, le5, Int.reduceAdd, Int.reduceMul, Bool.not_true, Bool.not_false, c_isterm n (t := t) (by omega) cs hc, decide_eq_true h]
  rw [fin_same fr_non hc]
end Mc
set_option Elab.async false
set_option linter.all false
set_option maxRecDepth 100000
set_option maxHeartbeats 2000000
namespace Mc
open PySem PySem.Spec PyProof.Rows L2
theorem compA {α : Type} {src : Src} {f : D → Cells → Option (Option D × Cells)} (φ : α → D) (g : α → Option D) {cs : Cells} {l : List α} (hat : ∀ i, src.at_ cs i = some (l.map φ)[i]?) (hf : ∀ b ∈ l, f (φ b) cs = some (g b, cs)) (hl : l.length ≤ cap) :
    ∀ (k i : Nat) (acc : List D), l.length - i < k → acc.length ≤ i → compGo src f k i acc cs = some (acc ++ (l.drop i).filterMap g, cs)
  | 0, i, acc, h, _ => by omega
  | k + 1, i, acc, h, ha => by
    unfold compGo
    rw [hat, List.getElem?_map]
    by_cases hi : i < l.length
    · have e : l[i]? = some l[i] := List.getElem?_eq_getElem hi
      have hd : l.drop i = l[i] :: l.drop (i + 1) := List.drop_eq_getElem_cons hi
      rw [e]; dsimp only [Option.map_some]; rw [hf _ (List.getElem_mem hi)]
      cases hg : g l[i] with
      | none =>
        show compGo src f k (i + 1) acc cs = _
        rw [compA φ g hat hf hl k (i + 1) acc (by omega) (by omega), hd, List.filterMap_cons_none hg]
      | some y =>
        show (if acc.length < cap then compGo src f k (i + 1) (acc ++ [y]) cs else none) = _
        rw [if_pos (by omega), compA φ g hat hf hl k (i + 1) (acc ++ [y]) (by omega) (by simp; omega), hd, List.filterMap_cons_some hg]
        simp
    · have e : l[i]? = none := List.getElem?_eq_none (by omega)
      rw [e, List.drop_of_length_le (by omega)]
      simp
theorem comp1 {α : Type} {src : Src} {f : D → Cells → Option (Option D × Cells)} (φ : α → D) (g : α → Option D) {cs : Cells} (l : List α) {m : Nat} (hat : ∀ i, src.at_ cs i = some (l.map φ)[i]?) (hf : ∀ b ∈ l, f (φ b) cs = some (g b, cs)) (hl : l.length ≤ cap) (hm : l.length < m) :
    compGo src f m 0 [] cs = some (l.filterMap g, cs) := by
  rw [compA φ g hat hf hl m 0 [] (by omega) (Nat.zero_le _)]
  simp
def sD (b : Bool) : D := .str (sg b)
theorem strsOf_map : ∀ ws : List Str, strsOf (ws.map D.str) = some ws
  | [] => rfl
  | w :: r => by simp only [List.map_cons, strsOf, strsOf_map r]
theorem strsOf_sg (l : List Bool) : strsOf (l.map sD) = some (l.map sg) := by
  have e : l.map sD = (l.map sg).map D.str := by rw [List.map_map]; rfl
  rw [e, strsOf_map]
theorem sum_sg (l : List Bool) : ((l.map sg).map (·.length)).sum + (l.map sg).length * (Str.ofString "").length = l.length := by
  have e : (Str.ofString "").length = 0 := by decide +kernel
  rw [e, Nat.mul_zero, Nat.add_zero, List.map_map]
  induction l with
  | nil => rfl
  | cons a r ih => rw [List.map_cons, List.sum_cons, ih, List.length_cons]; show 1 + r.length = r.length + 1; omega
/-- ''.join of signs -/
theorem join_ok (cs : Cells) (l : List Bool) (hl : l.length ≤ cap) : mtD cs .join (.str (Str.ofString "")) [.lst (l.map sD)] = some (.str (bs l), cs) := by
  simp only [mtD, seqOf, strsOf_sg]
  rw [sum_sg, if_pos hl, join_sg]
theorem c_unl (n : Nat) (a b : Bool) (cs : Cells) (hc : Fz cs) : P (n + 1) 14 [.str (sg a), .str (sg b)] cs = some (.str (sg (a != b)), cs) := by
  rw [c_unlike n _ _ cs hc, sg_eq]
  cases a <;> cases b <;> simp [s0, s1]
theorem filterMap_sD {α : Type} (f : α → Bool) (l : List α) : (l.filterMap fun b => some (sD (f b))) = (l.map f).map sD := by
  rw [List.filterMap_eq_map', List.map_map]; rfl
theorem wp3 (a b c d e : Option D) : wipeE [a, b, c, d, e] [3] = [a, b, c, none, e] := rfl
theorem wp43 (a b c d e : Option D) : wipeE [a, b, c, d, e] [4, 3] = [a, b, c, none, none] := rfl
theorem wp34 (a b c d e : Option D) : wipeE [a, b, c, d, e] [3, 4] = [a, b, c, none, none] := rfl
theorem tg3 : tgtIn [3] (.nm 3) = true := rfl
theorem tg43 : tgtIn [4, 3] (.tp (.cons (.nm 4) (.cons (.nm 3) .nil))) = true := rfl
theorem tg34 : tgtIn [3, 4] (.tp (.cons (.nm 3) (.cons (.nm 4) .nil))) = true := rfl
def gC0 : L := (.comp [("sign", 3)] (.nm 3) (.str (.var 1)) .no (.call 14 (.cons (.var 3) (.cons (.cst (.str "1")) .nil))))
def gC1 : L := (.comp [("sign", 3)] (.nm 3) (.str (.var 1)) .no (.op .Mult (.var 3) (.cst (.int 2))))
def gC2 : L := (.comp [("last", 4), ("sign", 3)] (.tp (.cons (.nm 4) (.cons (.nm 3) .nil))) (.zipT (.op .Add (.cst (.str "0")) (.var 1)) (.var 1)) .no (.call 14 (.cons (.var 4) (.cons (.var 3) .nil))))
theorem bs_src (l : List Bool) : ((bs l).cps.toList.map fun c => D.str ⟨#[c]⟩) = l.map sD := bs_chrs l
theorem bs_chr2 (l : List Bool) : chrs (bs l) = l.map sD := bs_chrs l
theorem e_not (n : Nat) (l : List Bool) (hl : l.length ≤ cap) (cs : Cells) (hc : Fz cs) (a b c d : Option D) : evL (P (n + 1)) gC0 [a, some (.str (bs l)), b, c, d] cs = some ((l.map not).map sD, cs) := by
  simp only [gC0, evSs, evS, evE, evT, evEs, evAnd, evOr, evTA, evTO, evG, evGs, evO, evC, evL, evI, cmpD, opD, augD, idxD, slcD, mtD, mtOk, biD, truD, seqOf, lstOf, srcL, List.map_cons, List.map_nil, List.cons_append, List.nil_append, List.getElem?_cons_zero, List.getElem?_cons_succ, List.getElem?_nil, List.set_cons_zero, List.set_cons_succ, List.length_cons, List.length_nil, List.replicate_succ, List.replicate_zero, Nat.reduceSub, Nat.reduceAdd, Bool.false_eq_true, if_false, if_true, le0, le1, le2, le3, le4, le5, Int.reduceAdd, Int.reduceMul, Bool.not_true, Bool.not_false, wp3, wp43, wp34, bs_src, tg3, Src.fuel]
  rw [comp1 sD (fun b => some (sD (!b))) l (fun i => rfl) (fun b _ => ?_) hl (by rw [List.length_map]; omega), filterMap_sD]
  simp only [sD, s1, c_unl n b true cs hc]
  cases b <;> rfl

theorem mul_sg (b : Bool) : mulS (sg b) 2 = bs [b, b] := by cases b <;> decide +kernel
theorem e_twice (n : Nat) (l : List Bool) (hl : l.length ≤ cap) (cs : Cells) (a b c d : Option D) : evL (P n) gC1 [a, some (.str (bs l)), b, c, d] cs = some ((l.map fun b => bs [b, b]).map D.str, cs) := by
  simp only [gC1, evSs, evS, evE, evT, evEs, evAnd, evOr, evTA, evTO, evG, evGs, evO, evC, evL, evI, cmpD, opD, augD, idxD, slcD, mtD, mtOk, biD, truD, seqOf, lstOf, srcL, List.map_cons, List.map_nil, List.cons_append, List.nil_append, List.getElem?_cons_zero, List.getElem?_cons_succ, List.getElem?_nil, List.set_cons_zero, List.set_cons_succ, List.length_cons, List.length_nil, List.replicate_succ, List.replicate_zero, Nat.reduceSub, Nat.reduceAdd, Bool.false_eq_true, if_false, if_true, le0, le1, le2, le3, le4, le5, Int.reduceAdd, Int.reduceMul, Bool.not_true, Bool.not_false, wp3, wp43, wp34, bs_src, tg3, Src.fuel]
  rw [comp1 sD (fun b => some (.str (bs [b, b]))) l (fun i => rfl) (fun b _ => ?_) hl (by rw [List.length_map]; omega)]
  · rw [List.filterMap_eq_map', List.map_map]; rfl
  · have h1 : (bs [b, b]).length ≤ cap := by rw [bs_len]; show 2 ≤ cap; decide
    have h2 : -(2 ^ 63 : Int) ≤ 2 ∧ (2 : Int) < 2 ^ 63 ∧ (sg b).length * (2 : Int).toNat ≤ cap ∧ (bs [b, b]).length ≤ cap := ⟨by decide, by decide, by rw [sg_len]; decide, h1⟩
    simp only [sD, mul_sg, if_pos h2]
theorem join_tw (cs : Cells) (l : List Bool) (hl : 2 * l.length ≤ cap) : mtD cs .join (.str (Str.ofString "")) [.lst ((l.map fun b => bs [b, b]).map D.str)] = some (.str (bs (twL l)), cs) := by
  simp only [mtD, seqOf, strsOf_map]
  have e : (Str.ofString "").length = 0 := by decide +kernel
  have e2 : ((l.map fun b => bs [b, b]).map (·.length)).sum = 2 * l.length := by
    rw [List.map_map]
    induction l with
    | nil => rfl
    | cons a r ih => rw [List.map_cons, List.sum_cons, ih (by simp at hl; omega), List.length_cons]; show 2 + 2 * r.length = _; omega
  rw [e, e2, Nat.mul_zero, Nat.add_zero, if_pos hl, se]
  have e3 : (l.map fun b => bs [b, b]) = (l.map fun b => [b, b]).map bs := by rw [List.map_map]; rfl
  rw [e3, glued_nil]
  rfl
/-- pairs of signs -/
def pD (p : Bool × Bool) : D := .tup [sD p.1, sD p.2]
theorem at_pairs (a b : List Bool) (cs : Cells) (i : Nat) : (Src.zp (.fz (a.map sD)) (.fz (b.map sD))).at_ cs i = some ((a.zip b).map pD)[i]? := by
  rw [at_zp]
  congr 2
  rw [List.zipWith_map, List.zip, List.map_zipWith]
  rfl
theorem zip_len (a b : List Bool) : (a.zip b).length ≤ a.length := by rw [List.length_zip]; exact Nat.min_le_left _ _
theorem chg_zip : ∀ (l : List Bool) (p : Bool), ((p :: l).zip l).map (fun q => q.1 != q.2) = chg p l
  | [], _ => rfl
  | x :: r, p => by rw [chg, List.zip_cons_cons, List.map_cons, chg_zip r x]
theorem e_change (n : Nat) (l : List Bool) (hl : l.length < cap) (cs : Cells) (hc : Fz cs) (a b c d : Option D) : evL (P (n + 1)) gC2 [a, some (.str (bs l)), b, c, d] cs = some ((chg false l).map sD, cs) := by
  have h1 : (sg false).length + (bs l).length ≤ cap := by rw [sg_len, bs_len]; omega
  have h2 : sg false ++ bs l = bs (false :: l) := bs_app [false] l
  have hI : evI (P (n + 1)) (.zipT (.op .Add (.cst (.str "0")) (.var 1)) (.var 1)) [a, some (.str (bs l)), b, c, d] cs = some (.zp (.fz ((false :: l).map sD)) (.fz (l.map sD)), cs) := by
    simp only [evSs, evS, evE, evT, evEs, evAnd, evOr, evTA, evTO, evG, evGs, evO, evC, evL, evI, cmpD, opD, augD, idxD, slcD, mtD, mtOk, biD, truD, seqOf, lstOf, srcL, List.map_cons, List.map_nil, List.cons_append, List.nil_append, List.getElem?_cons_zero, List.getElem?_cons_succ, List.getElem?_nil, List.set_cons_zero, List.set_cons_succ, List.length_cons, List.length_nil, List.replicate_succ, List.replicate_zero, Nat.reduceSub, Nat.reduceAdd, Bool.false_eq_true, if_false, if_true, le0, le1, le2, le3, le4, le5, Int.reduceAdd, Int.reduceMul, Bool.not_true, Bool.not_false, s0, if_pos h1, h2, bs_chr2]
  unfold gC2
  rw [evL, hI]
  dsimp only
  rw [comp1 pD (fun p => some (sD (p.1 != p.2))) ((false :: l).zip l) (fun i => at_pairs _ _ _ _) (fun p _ => ?_) (Nat.le_trans (zip_len _ _) hl) (by show _ < ((false :: l).map sD).length + 1; rw [List.length_map]; exact Nat.lt_succ_of_le (zip_len _ _)), filterMap_sD, chg_zip]
  simp only [pD, sD, evSs, evS, evE, evT, evEs, evAnd, evOr, evTA, evTO, evG, evGs, evO, evC, evL, evI, cmpD, opD, augD, idxD, slcD, mtD, mtOk, biD, truD, seqOf, lstOf, srcL, List.map_cons, List.map_nil, List.cons_append, List.nil_append, List.getElem?_cons_zero, List.getElem?_cons_succ, List.getElem?_nil, List.set_cons_zero, List.set_cons_succ, List.length_cons, List.length_nil, List.replicate_succ, List.replicate_zero, Nat.reduceSub, Nat.reduceAdd, Bool.false_eq_true, if_false, if_true, le0, le1, le2, le3, le4, le5, Int.reduceAdd, Int.reduceMul, Bool.not_true, Bool.not_false, wp43, tg43, c_unl n p.1 p.2 cs hc]
/-! counted -/
theorem cnt_snoc : ∀ (a : List Bool) (p x : Bool), cnt p (a ++ [x]) = cnt p a ++ [((cnt p a).getLastD p) != x]
  | [], _, _ => rfl
  | y :: r, p, x => by
    rw [List.cons_append, cnt, cnt_snoc r, cnt, List.cons_append]
    congr 3
    cases h : cnt (p != y) r <;> simp [List.getLastD]
def ctB : Ss := (.cons (.asg (.nm 2) (.call 14 (.cons (.var 2) (.cons (.var 3) .nil)))) (.cons (.asg (.nm 1) (.op .Add (.var 1) (.var 2))) .nil))
theorem ct_body : (td_counted 0).fd.body = (.cons (.asg (.nm 1) (.cst (.str ""))) (.cons (.asg (.nm 2) (.cst (.str "0"))) (.cons (.for (.nm 3) (.str (.var 0)) ctB) (.cons (.ret (.var 1)) .nil)))) := rfl
theorem c_counted (n : Nat) (l : List Bool) (hl : l.length ≤ cap) (cs : Cells) (hc : Fz cs) : P (n + 2) 13 [.str (bs l)] cs = some (.str (bs (cnt false l)), cs) := by
  rw [P_step (d := (td_counted 0).fd) rfl rfl, ct_body]
  simp only [evSs, evS, evE, evT, evEs, evAnd, evOr, evTA, evTO, evG, evGs, evO, evC, evL, evI, cmpD, opD, augD, idxD, slcD, mtD, mtOk, biD, truD, seqOf, lstOf, srcL, List.map_cons, List.map_nil, List.cons_append, List.nil_append, List.getElem?_cons_zero, List.getElem?_cons_succ, List.getElem?_nil, List.set_cons_zero, List.set_cons_succ, List.length_cons, List.length_nil, List.replicate_succ, List.replicate_zero, Nat.reduceSub, Nat.reduceAdd, Bool.false_eq_true, if_false, if_true, le0, le1, le2, le3, le4, le5, Int.reduceAdd, Int.reduceMul, Bool.not_true, Bool.not_false, td_counted, bs_src, Src.fuel]
  obtain ⟨env', cs', h1, h2, h3, h4⟩ := for_inv (src := .fz (l.map sD)) (ds := l.map sD)
    (f := fun d env1 cs2 => evSs (P (n + 1)) 1000 ctB (List.set env1 3 (some d)) cs2)
    (fun i env cs1 => cs1 = cs ∧ (∃ x, env = [some (.str (bs l)), some (.str (bs (cnt false (l.take i)))), some (.str (sg ((cnt false (l.take i)).getLastD false))), x]) ∧ True) (fun i env cs _ => rfl)
    (fun i d env cs1 e hI => by
      obtain ⟨rfl, ⟨x, rfl⟩, _⟩ := hI
      rw [List.getElem?_map] at e
      cases e2 : l[i]? with
      | none => rw [e2] at e; cases e
      | some b =>
        rw [e2] at e; cases e
        have e3 : l.take (i + 1) = l.take i ++ [b] := by rw [List.take_add_one, e2]; rfl
        have hlen : (bs (cnt false (l.take i))).length + (sg ((cnt false (l.take i)).getLastD false != b)).length ≤ cap := by
          rw [bs_len, cnt_len, sg_len, List.length_take]
          have := (List.getElem?_eq_some_iff.mp e2).1
          omega
        have e5 : (cnt false (l.take i ++ [b])).getLastD false = ((cnt false (l.take i)).getLastD false != b) := by
          rw [cnt_snoc, List.getLastD_eq_getLast?, List.getLast?_append]; rfl
        refine ⟨[some (.str (bs l)), some (.str (bs (cnt false (l.take (i + 1))))), some (.str (sg ((cnt false (l.take (i + 1))).getLastD false))), some (sD b)], cs1, ?_, rfl, ⟨_, rfl⟩, trivial⟩
        simp only [ctB, evSs, evS, evE, evT, evEs, evAnd, evOr, evTA, evTO, evG, evGs, evO, evC, evL, evI, cmpD, opD, augD, idxD, slcD, mtD, mtOk, biD, truD, seqOf, lstOf, srcL, List.map_cons, List.map_nil, List.cons_append, List.nil_append, List.getElem?_cons_zero, List.getElem?_cons_succ, List.getElem?_nil, List.set_cons_zero, List.set_cons_succ, List.length_cons, List.length_nil, List.replicate_succ, List.replicate_zero, Nat.reduceSub, Nat.reduceAdd, Bool.false_eq_true, if_false, if_true, le0, le1, le2, le3, le4, le5, Int.reduceAdd, Int.reduceMul, Bool.not_true, Bool.not_false, sD, c_unl n _ _ cs1 hc, if_pos hlen]
        rw [e3, e5, cnt_snoc]
        have e6 : bs (cnt false (l.take i)) ++ sg ((cnt false (l.take i)).getLastD false != b) = bs (cnt false (l.take i) ++ [(cnt false (l.take i)).getLastD false != b]) := bs_app _ [_]
        rw [e6])
    ((l.map sD).length + 1) 0 [some (.str (bs l)), some (.str (Str.ofString "")), some (.str (Str.ofString "0")), none] cs (by omega) (Nat.zero_le _) ⟨rfl, ⟨none, by rw [se, s0]; rfl⟩, trivial⟩
  obtain ⟨x, rfl⟩ := h3
  subst h2
  rw [h1]
  simp only [evSs, evS, evE, evT, evEs, evAnd, evOr, evTA, evTO, evG, evGs, evO, evC, evL, evI, cmpD, opD, augD, idxD, slcD, mtD, mtOk, biD, truD, seqOf, lstOf, srcL, List.map_cons, List.map_nil, List.cons_append, List.nil_append, List.getElem?_cons_zero, List.getElem?_cons_succ, List.getElem?_nil, List.set_cons_zero, List.set_cons_succ, List.length_cons, List.length_nil, List.replicate_succ, List.replicate_zero, Nat.reduceSub, Nat.reduceAdd, Bool.false_eq_true, if_false, if_true, le0, le1, le2, le3, le4, le5, Int.reduceAdd, Int.reduceMul, Bool.not_true, Bool.not_false]
  rw [List.length_map, List.take_length]
  exact fin_same (fr_str _) hc
end Mc
set_option Elab.async false
set_option linter.all false
set_option maxRecDepth 100000
set_option maxHeartbeats 2000000
namespace Mc
open PySem PySem.Spec PyProof.Rows L2
theorem go_body : (td_given_of_one 0).fd.body = (.cons (.asg (.nm 2) (.call 6 (.cons (.var 0) .nil))) (.cons (.ifs (.cmp .Eq (.var 2) (.cst (.str "not"))) (.cons (.ret (.mt .join (.cst (.str "")) (.cons (.new false gC0) .nil))) .nil) .nil) (.cons (.ifs (.cmp .Eq (.var 2) (.cst (.str "late"))) (.cons (.ret (.slc (.op .Add (.idx (.var 0) (.cst (.int 1))) (.var 1)) .no (.so (.bi .len (.cons (.var 1) .nil))))) .nil) .nil) (.cons (.ifs (.cmp .Eq (.var 2) (.cst (.str "twice"))) (.cons (.ret (.mt .join (.cst (.str "")) (.cons (.new false gC1) .nil))) .nil) .nil) (.cons (.ifs (.cmp .Eq (.var 2) (.cst (.str "half"))) (.cons (.ret (.stp (.var 1) 1 2)) .nil) .nil) (.cons (.ifs (.cmp .Eq (.var 2) (.cst (.str "change"))) (.cons (.ret (.mt .join (.cst (.str "")) (.cons (.new false gC2) .nil))) .nil) .nil) (.cons (.ret (.call 13 (.cons (.var 1) .nil))) .nil))))))) := rfl
theorem cap8 : 100000 ≤ cap := by decide
theorem c_one_un (n : Nat) (u : U) (t : Tm) (l : List Bool) (hl : l.length ≤ 20000) (cs : Cells) (hc : Fz cs) : P (n + 3) 12 [(Tm.un u t).d, .str (bs l)] cs = some (.str (bs (u.f l)), cs) := by
  have h8 := cap8
  rw [P_step (d := (td_given_of_one 0).fd) rfl rfl, go_body]
  cases u with
  | nt =>
    simp only [Tm.d, U.w, td_given_of_one, evSs, evS, evE, evT, evEs, evAnd, evOr, evTA, evTO, evG, evGs, evO, evC, evL, evI, cmpD, opD, augD, idxD, slcD, mtOk, biD, truD, seqOf, lstOf, srcL, List.map_cons, List.map_nil, List.cons_append, List.nil_append, List.getElem?_cons_zero, List.getElem?_cons_succ, List.getElem?_nil, List.set_cons_zero, List.set_cons_succ, List.length_cons, List.length_nil, List.replicate_succ, List.replicate_zero, Nat.reduceSub, Nat.reduceAdd, Bool.false_eq_true, if_false, if_true, le0, le1, le2, le3, le4, le5, Int.reduceAdd, Int.reduceMul, Bool.not_true, Bool.not_false, c_word_t _ _ _ _ hc, eqB_ss, beq_self_eq_true, e_not (n + 1) l (by omega) cs hc, join_ok cs _ (show (l.map not).length ≤ cap by rw [List.length_map]; omega)]
    exact fin_same (fr_str _) hc
  | tw =>
    simp only [Tm.d, U.w, td_given_of_one, evSs, evS, evE, evT, evEs, evAnd, evOr, evTA, evTO, evG, evGs, evO, evC, evL, evI, cmpD, opD, augD, idxD, slcD, mtOk, biD, truD, seqOf, lstOf, srcL, List.map_cons, List.map_nil, List.cons_append, List.nil_append, List.getElem?_cons_zero, List.getElem?_cons_succ, List.getElem?_nil, List.set_cons_zero, List.set_cons_succ, List.length_cons, List.length_nil, List.replicate_succ, List.replicate_zero, Nat.reduceSub, Nat.reduceAdd, Bool.false_eq_true, if_false, if_true, le0, le1, le2, le3, le4, le5, Int.reduceAdd, Int.reduceMul, Bool.not_true, Bool.not_false, c_word_t _ _ _ _ hc, eqB_ss, w_in_not, w_in_late, w_in_twice, w_in_half, w_in_change, w_in_count, w_in_by, w_in_keep, w_in_then, w_not_in, w_not_late, w_not_twice, w_not_half, w_not_change, w_not_count, w_not_by, w_not_keep, w_not_then, w_late_in, w_late_not, w_late_twice, w_late_half, w_late_change, w_late_count, w_late_by, w_late_keep, w_late_then, w_twice_in, w_twice_not, w_twice_late, w_twice_half, w_twice_change, w_twice_count, w_twice_by, w_twice_keep, w_twice_then, w_half_in, w_half_not, w_half_late, w_half_twice, w_half_change, w_half_count, w_half_by, w_half_keep, w_half_then, w_change_in, w_change_not, w_change_late, w_change_twice, w_change_half, w_change_count, w_change_by, w_change_keep, w_change_then, w_count_in, w_count_not, w_count_late, w_count_twice, w_count_half, w_count_change, w_count_by, w_count_keep, w_count_then, w_by_in, w_by_not, w_by_late, w_by_twice, w_by_half, w_by_change, w_by_count, w_by_keep, w_by_then, w_keep_in, w_keep_not, w_keep_late, w_keep_twice, w_keep_half, w_keep_change, w_keep_count, w_keep_by, w_keep_then, w_then_in, w_then_not, w_then_late, w_then_twice, w_then_half, w_then_change, w_then_count, w_then_by, w_then_keep, beq_self_eq_true, e_twice (n + 2) l (by omega) cs, join_tw cs l (by omega)]
    exact fin_same (fr_str _) hc
  | hf =>
    have h2 : (bs l).length ≤ cap ∧ (2 : Int) ≠ 0 := ⟨by rw [bs_len]; omega, by decide⟩
    simp only [Tm.d, U.w, td_given_of_one, evSs, evS, evE, evT, evEs, evAnd, evOr, evTA, evTO, evG, evGs, evO, evC, evL, evI, cmpD, opD, augD, idxD, slcD, mtOk, biD, truD, seqOf, lstOf, srcL, List.map_cons, List.map_nil, List.cons_append, List.nil_append, List.getElem?_cons_zero, List.getElem?_cons_succ, List.getElem?_nil, List.set_cons_zero, List.set_cons_succ, List.length_cons, List.length_nil, List.replicate_succ, List.replicate_zero, Nat.reduceSub, Nat.reduceAdd, Bool.false_eq_true, if_false, if_true, le0, le1, le2, le3, le4, le5, Int.reduceAdd, Int.reduceMul, Bool.not_true, Bool.not_false, c_word_t _ _ _ _ hc, eqB_ss, w_in_not, w_in_late, w_in_twice, w_in_half, w_in_change, w_in_count, w_in_by, w_in_keep, w_in_then, w_not_in, w_not_late, w_not_twice, w_not_half, w_not_change, w_not_count, w_not_by, w_not_keep, w_not_then, w_late_in, w_late_not, w_late_twice, w_late_half, w_late_change, w_late_count, w_late_by, w_late_keep, w_late_then, w_twice_in, w_twice_not, w_twice_late, w_twice_half, w_twice_change, w_twice_count, w_twice_by, w_twice_keep, w_twice_then, w_half_in, w_half_not, w_half_late, w_half_twice, w_half_change, w_half_count, w_half_by, w_half_keep, w_half_then, w_change_in, w_change_not, w_change_late, w_change_twice, w_change_half, w_change_count, w_change_by, w_change_keep, w_change_then, w_count_in, w_count_not, w_count_late, w_count_twice, w_count_half, w_count_change, w_count_by, w_count_keep, w_count_then, w_by_in, w_by_not, w_by_late, w_by_twice, w_by_half, w_by_change, w_by_count, w_by_keep, w_by_then, w_keep_in, w_keep_not, w_keep_late, w_keep_twice, w_keep_half, w_keep_change, w_keep_count, w_keep_by, w_keep_then, w_then_in, w_then_not, w_then_late, w_then_twice, w_then_half, w_then_change, w_then_count, w_then_by, w_then_keep, beq_self_eq_true, if_pos h2, stp_bs]
    exact fin_same (fr_str _) hc
  | ch =>
    simp only [Tm.d, U.w, td_given_of_one, evSs, evS, evE, evT, evEs, evAnd, evOr, evTA, evTO, evG, evGs, evO, evC, evL, evI, cmpD, opD, augD, idxD, slcD, mtOk, biD, truD, seqOf, lstOf, srcL, List.map_cons, List.map_nil, List.cons_append, List.nil_append, List.getElem?_cons_zero, List.getElem?_cons_succ, List.getElem?_nil, List.set_cons_zero, List.set_cons_succ, List.length_cons, List.length_nil, List.replicate_succ, List.replicate_zero, Nat.reduceSub, Nat.reduceAdd, Bool.false_eq_true, if_false, if_true, le0, le1, le2, le3, le4, le5, Int.reduceAdd, Int.reduceMul, Bool.not_true, Bool.not_false, c_word_t _ _ _ _ hc, eqB_ss, w_in_not, w_in_late, w_in_twice, w_in_half, w_in_change, w_in_count, w_in_by, w_in_keep, w_in_then, w_not_in, w_not_late, w_not_twice, w_not_half, w_not_change, w_not_count, w_not_by, w_not_keep, w_not_then, w_late_in, w_late_not, w_late_twice, w_late_half, w_late_change, w_late_count, w_late_by, w_late_keep, w_late_then, w_twice_in, w_twice_not, w_twice_late, w_twice_half, w_twice_change, w_twice_count, w_twice_by, w_twice_keep, w_twice_then, w_half_in, w_half_not, w_half_late, w_half_twice, w_half_change, w_half_count, w_half_by, w_half_keep, w_half_then, w_change_in, w_change_not, w_change_late, w_change_twice, w_change_half, w_change_count, w_change_by, w_change_keep, w_change_then, w_count_in, w_count_not, w_count_late, w_count_twice, w_count_half, w_count_change, w_count_by, w_count_keep, w_count_then, w_by_in, w_by_not, w_by_late, w_by_twice, w_by_half, w_by_change, w_by_count, w_by_keep, w_by_then, w_keep_in, w_keep_not, w_keep_late, w_keep_twice, w_keep_half, w_keep_change, w_keep_count, w_keep_by, w_keep_then, w_then_in, w_then_not, w_then_late, w_then_twice, w_then_half, w_then_change, w_then_count, w_then_by, w_then_keep, beq_self_eq_true, e_change (n + 1) l (by omega) cs hc, join_ok cs _ (show (chg false l).length ≤ cap by rw [chg_len]; omega)]
    exact fin_same (fr_str _) hc
  | ct =>
    simp only [Tm.d, U.w, td_given_of_one, evSs, evS, evE, evT, evEs, evAnd, evOr, evTA, evTO, evG, evGs, evO, evC, evL, evI, cmpD, opD, augD, idxD, slcD, mtOk, biD, truD, seqOf, lstOf, srcL, List.map_cons, List.map_nil, List.cons_append, List.nil_append, List.getElem?_cons_zero, List.getElem?_cons_succ, List.getElem?_nil, List.set_cons_zero, List.set_cons_succ, List.length_cons, List.length_nil, List.replicate_succ, List.replicate_zero, Nat.reduceSub, Nat.reduceAdd, Bool.false_eq_true, if_false, if_true, le0, le1, le2, le3, le4, le5, Int.reduceAdd, Int.reduceMul, Bool.not_true, Bool.not_false, c_word_t _ _ _ _ hc, eqB_ss, w_in_not, w_in_late, w_in_twice, w_in_half, w_in_change, w_in_count, w_in_by, w_in_keep, w_in_then, w_not_in, w_not_late, w_not_twice, w_not_half, w_not_change, w_not_count, w_not_by, w_not_keep, w_not_then, w_late_in, w_late_not, w_late_twice, w_late_half, w_late_change, w_late_count, w_late_by, w_late_keep, w_late_then, w_twice_in, w_twice_not, w_twice_late, w_twice_half, w_twice_change, w_twice_count, w_twice_by, w_twice_keep, w_twice_then, w_half_in, w_half_not, w_half_late, w_half_twice, w_half_change, w_half_count, w_half_by, w_half_keep, w_half_then, w_change_in, w_change_not, w_change_late, w_change_twice, w_change_half, w_change_count, w_change_by, w_change_keep, w_change_then, w_count_in, w_count_not, w_count_late, w_count_twice, w_count_half, w_count_change, w_count_by, w_count_keep, w_count_then, w_by_in, w_by_not, w_by_late, w_by_twice, w_by_half, w_by_change, w_by_count, w_by_keep, w_by_then, w_keep_in, w_keep_not, w_keep_late, w_keep_twice, w_keep_half, w_keep_change, w_keep_count, w_keep_by, w_keep_then, w_then_in, w_then_not, w_then_late, w_then_twice, w_then_half, w_then_change, w_then_count, w_then_by, w_then_keep, beq_self_eq_true, c_counted n l (by omega) cs hc]
    exact fin_same (fr_str _) hc
theorem c_one_late (n : Nat) (c : Bool) (t : Tm) (l : List Bool) (hl : l.length ≤ 20000) (cs : Cells) (hc : Fz cs) : P (n + 3) 12 [(Tm.late c t).d, .str (bs l)] cs = some (.str (bs (lateL c l)), cs) := by
  have h8 := cap8
  rw [P_step (d := (td_given_of_one 0).fd) rfl rfl, go_body]
  have h1 : (sg c).length + l.length ≤ cap := by rw [sg_len]; omega
  have h2 : sg c ++ bs l = bs (c :: l) := bs_app [c] l
  have h3 : l.length + 1 ≤ cap := by omega
  have h4 : l.length ≤ cap := by omega
  simp only [Tm.d, td_given_of_one, evSs, evS, evE, evT, evEs, evAnd, evOr, evTA, evTO, evG, evGs, evO, evC, evL, evI, cmpD, opD, augD, idxD, slcD, mtOk, biD, truD, seqOf, lstOf, srcL, List.map_cons, List.map_nil, List.cons_append, List.nil_append, List.getElem?_cons_zero, List.getElem?_cons_succ, List.getElem?_nil, List.set_cons_zero, List.set_cons_succ, List.length_cons, List.length_nil, List.replicate_succ, List.replicate_zero, Nat.reduceSub, Nat.reduceAdd, Bool.false_eq_true, if_false, if_true, le0, le1, le2, le3, le4, le5, Int.reduceAdd, Int.reduceMul, Bool.not_true, Bool.not_false, c_word_t _ _ _ _ hc, eqB_ss, w_in_not, w_in_late, w_in_twice, w_in_half, w_in_change, w_in_count, w_in_by, w_in_keep, w_in_then, w_not_in, w_not_late, w_not_twice, w_not_half, w_not_change, w_not_count, w_not_by, w_not_keep, w_not_then, w_late_in, w_late_not, w_late_twice, w_late_half, w_late_change, w_late_count, w_late_by, w_late_keep, w_late_then, w_twice_in, w_twice_not, w_twice_late, w_twice_half, w_twice_change, w_twice_count, w_twice_by, w_twice_keep, w_twice_then, w_half_in, w_half_not, w_half_late, w_half_twice, w_half_change, w_half_count, w_half_by, w_half_keep, w_half_then, w_change_in, w_change_not, w_change_late, w_change_twice, w_change_half, w_change_count, w_change_by, w_change_keep, w_change_then, w_count_in, w_count_not, w_count_late, w_count_twice, w_count_half, w_count_change, w_count_by, w_count_keep, w_count_then, w_by_in, w_by_not, w_by_late, w_by_twice, w_by_half, w_by_change, w_by_count, w_by_keep, w_by_then, w_keep_in, w_keep_not, w_keep_late, w_keep_twice, w_keep_half, w_keep_change, w_keep_count, w_keep_by, w_keep_then, w_then_in, w_then_not, w_then_late, w_then_twice, w_then_half, w_then_change, w_then_count, w_then_by, w_then_keep, beq_self_eq_true, atI_1, if_pos h1, h2, bs_len, if_pos h4, if_pos h3, bs_cut]
  exact fin_same (fr_str _) hc
def gvC0 : L := (.comp [("one", 3), ("other", 4)] (.tp (.cons (.nm 3) (.cons (.nm 4) .nil))) (.zipS (.var 1)) .no (.idx (.idx (.var 0) (.cst (.int 1))) (.op .Add (.op .Mult (.cst (.int 2)) (.bi .int (.cons (.var 3) .nil))) (.bi .int (.cons (.var 4) .nil)))))
def gvC1 : L := (.comp [("one", 3), ("other", 4)] (.tp (.cons (.nm 3) (.cons (.nm 4) .nil))) (.zipS (.var 1)) (.so (.cmp .Eq (.var 4) (.cst (.str "1")))) (.var 3))
theorem gv_body : (td_given 0).fd.body = (.cons (.asg (.nm 2) (.call 6 (.cons (.var 0) .nil))) (.cons (.ifs (.cmp .Eq (.var 2) (.cst (.str "by"))) (.cons (.ret (.mt .join (.cst (.str "")) (.cons (.new false gvC0) .nil))) .nil) .nil) (.cons (.ifs (.cmp .Eq (.var 2) (.cst (.str "keep"))) (.cons (.ret (.mt .join (.cst (.str "")) (.cons (.new false gvC1) .nil))) .nil) .nil) (.cons (.ret (.call 12 (.cons (.var 0) (.cons (.idx (.var 1) (.cst (.int 0))) .nil)))) .nil)))) := rfl
theorem zipS_I (n : Nat) (l m : List Bool) (cs : Cells) (a b c d : Option D) : evI (P n) (.zipS (.var 1)) [a, some (.lst [.str (bs l), .str (bs m)]), b, c, d] cs = some (.zp (.fz (l.map sD)) (.fz (m.map sD)), cs) := by
  simp only [evSs, evS, evE, evT, evEs, evAnd, evOr, evTA, evTO, evG, evGs, evO, evC, evL, evI, cmpD, opD, augD, idxD, slcD, mtD, mtOk, biD, truD, seqOf, lstOf, srcL, List.map_cons, List.map_nil, List.cons_append, List.nil_append, List.getElem?_cons_zero, List.getElem?_cons_succ, List.getElem?_nil, List.set_cons_zero, List.set_cons_succ, List.length_cons, List.length_nil, List.replicate_succ, List.replicate_zero, Nat.reduceSub, Nat.reduceAdd, Bool.false_eq_true, if_false, if_true, le0, le1, le2, le3, le4, le5, Int.reduceAdd, Int.reduceMul, Bool.not_true, Bool.not_false, pairOf, bs_chr2]
theorem keep_zip : ∀ (l m : List Bool), (l.zip m).filterMap (fun p => if p.2 = true then some (sD p.1) else none) = (keepL l m).map sD
  | [], _ => by simp [keepL]
  | x :: r, [] => by simp [keepL]
  | x :: r, y :: q => by
    rw [List.zip_cons_cons]
    unfold keepL
    cases y
    · rw [List.filterMap_cons_none (by rfl), keep_zip r q]; rfl
    · rw [List.filterMap_cons_some (by rfl), keep_zip r q]; rfl
theorem e_keep (n : Nat) (l m : List Bool) (hl : l.length ≤ cap) (cs : Cells) (a b c d : Option D) : evL (P n) gvC1 [a, some (.lst [.str (bs l), .str (bs m)]), b, c, d] cs = some ((keepL l m).map sD, cs) := by
  unfold gvC1
  rw [evL, zipS_I]
  dsimp only
  rw [comp1 pD (fun p => if p.2 = true then some (sD p.1) else none) (l.zip m) (fun i => at_pairs _ _ _ _) (fun p _ => ?_) (Nat.le_trans (zip_len _ _) hl) (by show _ < (l.map sD).length + 1; rw [List.length_map]; exact Nat.lt_succ_of_le (zip_len _ _)), keep_zip]
  obtain ⟨x, y⟩ := p
  simp only [pD, sD, evSs, evS, evE, evT, evEs, evAnd, evOr, evTA, evTO, evG, evGs, evO, evC, evL, evI, cmpD, opD, augD, idxD, slcD, mtD, mtOk, biD, truD, seqOf, lstOf, srcL, List.map_cons, List.map_nil, List.cons_append, List.nil_append, List.getElem?_cons_zero, List.getElem?_cons_succ, List.getElem?_nil, List.set_cons_zero, List.set_cons_succ, List.length_cons, List.length_nil, List.replicate_succ, List.replicate_zero, Nat.reduceSub, Nat.reduceAdd, Bool.false_eq_true, if_false, if_true, le0, le1, le2, le3, le4, le5, Int.reduceAdd, Int.reduceMul, Bool.not_true, Bool.not_false, wp34, tg34, eqB_ss, sg1]
  cases y <;> simp only [evSs, evS, evE, evT, evEs, evAnd, evOr, evTA, evTO, evG, evGs, evO, evC, evL, evI, cmpD, opD, augD, idxD, slcD, mtD, mtOk, biD, truD, seqOf, lstOf, srcL, List.map_cons, List.map_nil, List.cons_append, List.nil_append, List.getElem?_cons_zero, List.getElem?_cons_succ, List.getElem?_nil, List.set_cons_zero, List.set_cons_succ, List.length_cons, List.length_nil, List.replicate_succ, List.replicate_zero, Nat.reduceSub, Nat.reduceAdd, Bool.false_eq_true, if_false, if_true, le0, le1, le2, le3, le4, le5, Int.reduceAdd, Int.reduceMul, Bool.not_true, Bool.not_false]
theorem at4_0 (a b c d : Bool) : atI (bs [a, b, c, d]).cps.toList 0 = some (cp a) := bs_at [a, b, c, d] 0 (by simp)
theorem at4_1 (a b c d : Bool) : atI (bs [a, b, c, d]).cps.toList 1 = some (cp b) := bs_at [a, b, c, d] 1 (by simp)
theorem at4_2 (a b c d : Bool) : atI (bs [a, b, c, d]).cps.toList 2 = some (cp c) := bs_at [a, b, c, d] 2 (by simp)
theorem at4_3 (a b c d : Bool) : atI (bs [a, b, c, d]).cps.toList 3 = some (cp d) := bs_at [a, b, c, d] 3 (by simp)
theorem by_zip (a b c d : Bool) (l m : List Bool) : (l.zip m).map (fun p => pk4 a b c d p.1 p.2) = List.zipWith (pk4 a b c d) l m := by
  rw [List.zip, List.map_zipWith]
theorem e_by (n : Nat) (a b c d : Bool) (w : D) (r : List D) (l m : List Bool) (hl : l.length ≤ cap) (cs : Cells) (x y z : Option D) : evL (P n) gvC0 [some (.tup (w :: .str (bs [a, b, c, d]) :: r)), some (.lst [.str (bs l), .str (bs m)]), x, y, z] cs = some ((List.zipWith (pk4 a b c d) l m).map sD, cs) := by
  unfold gvC0
  rw [evL, zipS_I]
  dsimp only
  rw [comp1 pD (fun p => some (sD (pk4 a b c d p.1 p.2))) (l.zip m) (fun i => at_pairs _ _ _ _) (fun p _ => ?_) (Nat.le_trans (zip_len _ _) hl) (by show _ < (l.map sD).length + 1; rw [List.length_map]; exact Nat.lt_succ_of_le (zip_len _ _)), filterMap_sD, by_zip]
  obtain ⟨p, q⟩ := p
  have h1 : (sg p).length ≤ 640 ∧ (sg q).length ≤ 640 := ⟨by rw [sg_len]; decide, by rw [sg_len]; decide⟩
  have h2 : (bs [a, b, c, d]).length ≤ cap := by rw [bs_len]; show 4 ≤ cap; decide
  have h3 : ((-(2 ^ 64) : Int) < 2 ∧ (2 : Int) < 2 ^ 64) := ⟨by decide, by decide⟩
  have h4 : ∀ k : Int, ((-(2 ^ 64) : Int) < 2 ∧ (2 : Int) < 2 ^ 64) ∨ (-(2 ^ 64) : Int) < k ∧ k < 2 ^ 64 := fun k => .inl h3
  simp only [pD, sD, evSs, evS, evE, evT, evEs, evAnd, evOr, evTA, evTO, evG, evGs, evO, evC, evL, evI, cmpD, opD, augD, idxD, slcD, mtD, mtOk, biD, truD, seqOf, lstOf, srcL, List.map_cons, List.map_nil, List.cons_append, List.nil_append, List.getElem?_cons_zero, List.getElem?_cons_succ, List.getElem?_nil, List.set_cons_zero, List.set_cons_succ, List.length_cons, List.length_nil, List.replicate_succ, List.replicate_zero, Nat.reduceSub, Nat.reduceAdd, Bool.false_eq_true, if_false, if_true, le0, le1, le2, le3, le4, le5, Int.reduceAdd, Int.reduceMul, Bool.not_true, Bool.not_false, wp34, tg34, sg_int, atI_1, if_pos h1.1, if_pos h1.2, if_pos (h4 _), if_pos h2]
  cases p <;> cases q <;> simp only [evSs, evS, evE, evT, evEs, evAnd, evOr, evTA, evTO, evG, evGs, evO, evC, evL, evI, cmpD, opD, augD, idxD, slcD, mtD, mtOk, biD, truD, seqOf, lstOf, srcL, List.map_cons, List.map_nil, List.cons_append, List.nil_append, List.getElem?_cons_zero, List.getElem?_cons_succ, List.getElem?_nil, List.set_cons_zero, List.set_cons_succ, List.length_cons, List.length_nil, List.replicate_succ, List.replicate_zero, Nat.reduceSub, Nat.reduceAdd, Bool.false_eq_true, if_false, if_true, le0, le1, le2, le3, le4, le5, Int.reduceAdd, Int.reduceMul, Bool.not_true, Bool.not_false, Int.add_zero, Int.mul_zero, Int.mul_one, at4_0, at4_1, at4_2, at4_3] <;> rfl

theorem c_given_un (n : Nat) (u : U) (t : Tm) (l : List Bool) (hl : l.length ≤ 20000) (cs : Cells) (hc : Fz cs) : P (n + 4) 11 [(Tm.un u t).d, .lst [.str (bs l)]] cs = some (.str (bs (u.f l)), cs) := by
  rw [P_step (d := (td_given 0).fd) rfl rfl, gv_body]
  have h := c_one_un n u t l hl cs hc
  cases u <;> (simp only [Tm.d, U.w] at h ⊢; simp only [td_given, evSs, evS, evE, evT, evEs, evAnd, evOr, evTA, evTO, evG, evGs, evO, evC, evL, evI, cmpD, opD, augD, idxD, slcD, mtOk, biD, truD, seqOf, lstOf, srcL, List.map_cons, List.map_nil, List.cons_append, List.nil_append, List.getElem?_cons_zero, List.getElem?_cons_succ, List.getElem?_nil, List.set_cons_zero, List.set_cons_succ, List.length_cons, List.length_nil, List.replicate_succ, List.replicate_zero, Nat.reduceSub, Nat.reduceAdd, Bool.false_eq_true, if_false, if_true, le0, le1, le2, le3, le4, le5, Int.reduceAdd, Int.reduceMul, Bool.not_true, Bool.not_false, c_word_t _ _ _ _ hc, eqB_ss, w_in_not, w_in_late, w_in_twice, w_in_half, w_in_change, w_in_count, w_in_by, w_in_keep, w_in_then, w_not_in, w_not_late, w_not_twice, w_not_half, w_not_change, w_not_count, w_not_by, w_not_keep, w_not_then, w_late_in, w_late_not, w_late_twice, w_late_half, w_late_change, w_late_count, w_late_by, w_late_keep, w_late_then, w_twice_in, w_twice_not, w_twice_late, w_twice_half, w_twice_change, w_twice_count, w_twice_by, w_twice_keep, w_twice_then, w_half_in, w_half_not, w_half_late, w_half_twice, w_half_change, w_half_count, w_half_by, w_half_keep, w_half_then, w_change_in, w_change_not, w_change_late, w_change_twice, w_change_half, w_change_count, w_change_by, w_change_keep, w_change_then, w_count_in, w_count_not, w_count_late, w_count_twice, w_count_half, w_count_change, w_count_by, w_count_keep, w_count_then, w_by_in, w_by_not, w_by_late, w_by_twice, w_by_half, w_by_change, w_by_count, w_by_keep, w_by_then, w_keep_in, w_keep_not, w_keep_late, w_keep_twice, w_keep_half, w_keep_change, w_keep_count, w_keep_by, w_keep_then, w_then_in, w_then_not, w_then_late, w_then_twice, w_then_half, w_then_change, w_then_count, w_then_by, w_then_keep, atI_0, h]; exact fin_same (fr_str _) hc)
theorem c_given_late (n : Nat) (c : Bool) (t : Tm) (l : List Bool) (hl : l.length ≤ 20000) (cs : Cells) (hc : Fz cs) : P (n + 4) 11 [(Tm.late c t).d, .lst [.str (bs l)]] cs = some (.str (bs (lateL c l)), cs) := by
  rw [P_step (d := (td_given 0).fd) rfl rfl, gv_body]
  have h := c_one_late n c t l hl cs hc
  simp only [Tm.d] at h ⊢
  simp only [td_given, evSs, evS, evE, evT, evEs, evAnd, evOr, evTA, evTO, evG, evGs, evO, evC, evL, evI, cmpD, opD, augD, idxD, slcD, mtOk, biD, truD, seqOf, lstOf, srcL, List.map_cons, List.map_nil, List.cons_append, List.nil_append, List.getElem?_cons_zero, List.getElem?_cons_succ, List.getElem?_nil, List.set_cons_zero, List.set_cons_succ, List.length_cons, List.length_nil, List.replicate_succ, List.replicate_zero, Nat.reduceSub, Nat.reduceAdd, Bool.false_eq_true, if_false, if_true, le0, le1, le2, le3, le4, le5, Int.reduceAdd, Int.reduceMul, Bool.not_true, Bool.not_false, c_word_t _ _ _ _ hc, eqB_ss, w_in_not, w_in_late, w_in_twice, w_in_half, w_in_change, w_in_count, w_in_by, w_in_keep, w_in_then, w_not_in, w_not_late, w_not_twice, w_not_half, w_not_change, w_not_count, w_not_by, w_not_keep, w_not_then, w_late_in, w_late_not, w_late_twice, w_late_half, w_late_change, w_late_count, w_late_by, w_late_keep, w_late_then, w_twice_in, w_twice_not, w_twice_late, w_twice_half, w_twice_change, w_twice_count, w_twice_by, w_twice_keep, w_twice_then, w_half_in, w_half_not, w_half_late, w_half_twice, w_half_change, w_half_count, w_half_by, w_half_keep, w_half_then, w_change_in, w_change_not, w_change_late, w_change_twice, w_change_half, w_change_count, w_change_by, w_change_keep, w_change_then, w_count_in, w_count_not, w_count_late, w_count_twice, w_count_half, w_count_change, w_count_by, w_count_keep, w_count_then, w_by_in, w_by_not, w_by_late, w_by_twice, w_by_half, w_by_change, w_by_count, w_by_keep, w_by_then, w_keep_in, w_keep_not, w_keep_late, w_keep_twice, w_keep_half, w_keep_change, w_keep_count, w_keep_by, w_keep_then, w_then_in, w_then_not, w_then_late, w_then_twice, w_then_half, w_then_change, w_then_count, w_then_by, w_then_keep, atI_0, h]
  exact fin_same (fr_str _) hc
theorem c_given_by (n : Nat) (a b c d : Bool) (t u : Tm) (l m : List Bool) (hl : l.length ≤ 20000) (cs : Cells) (hc : Fz cs) : P (n + 4) 11 [(Tm.bt a b c d t u).d, .lst [.str (bs l), .str (bs m)]] cs = some (.str (bs (List.zipWith (pk4 a b c d) l m)), cs) := by
  have h8 := cap8
  rw [P_step (d := (td_given 0).fd) rfl rfl, gv_body]
  have hz : (List.zipWith (pk4 a b c d) l m).length ≤ cap := by rw [List.length_zipWith]; omega
  simp only [Tm.d, td_given, evSs, evS, evE, evT, evEs, evAnd, evOr, evTA, evTO, evG, evGs, evO, evC, evL, evI, cmpD, opD, augD, idxD, slcD, mtOk, biD, truD, seqOf, lstOf, srcL, List.map_cons, List.map_nil, List.cons_append, List.nil_append, List.getElem?_cons_zero, List.getElem?_cons_succ, List.getElem?_nil, List.set_cons_zero, List.set_cons_succ, List.length_cons, List.length_nil, List.replicate_succ, List.replicate_zero, Nat.reduceSub, Nat.reduceAdd, Bool.false_eq_true, if_false, if_true, le0, le1, le2, le3, le4, le5, Int.reduceAdd, Int.reduceMul, Bool.not_true, Bool.not_false, c_word_t _ _ _ _ hc, eqB_ss, beq_self_eq_true, e_by (n + 3) a b c d _ _ l m (by omega) cs, join_ok cs _ hz]
  exact fin_same (fr_str _) hc
theorem c_given_kp (n : Nat) (t u : Tm) (l m : List Bool) (hl : l.length ≤ 20000) (cs : Cells) (hc : Fz cs) : P (n + 4) 11 [(Tm.kp t u).d, .lst [.str (bs l), .str (bs m)]] cs = some (.str (bs (keepL l m)), cs) := by
  have h8 := cap8
  rw [P_step (d := (td_given 0).fd) rfl rfl, gv_body]
  have hz : (keepL l m).length ≤ cap := by have := keepL_len l m; omega
  simp only [Tm.d, td_given, evSs, evS, evE, evT, evEs, evAnd, evOr, evTA, evTO, evG, evGs, evO, evC, evL, evI, cmpD, opD, augD, idxD, slcD, mtOk, biD, truD, seqOf, lstOf, srcL, List.map_cons, List.map_nil, List.cons_append, List.nil_append, List.getElem?_cons_zero, List.getElem?_cons_succ, List.getElem?_nil, List.set_cons_zero, List.set_cons_succ, List.length_cons, List.length_nil, List.replicate_succ, List.replicate_zero, Nat.reduceSub, Nat.reduceAdd, Bool.false_eq_true, if_false, if_true, le0, le1, le2, le3, le4, le5, Int.reduceAdd, Int.reduceMul, Bool.not_true, Bool.not_false, c_word_t _ _ _ _ hc, eqB_ss, w_in_not, w_in_late, w_in_twice, w_in_half, w_in_change, w_in_count, w_in_by, w_in_keep, w_in_then, w_not_in, w_not_late, w_not_twice, w_not_half, w_not_change, w_not_count, w_not_by, w_not_keep, w_not_then, w_late_in, w_late_not, w_late_twice, w_late_half, w_late_change, w_late_count, w_late_by, w_late_keep, w_late_then, w_twice_in, w_twice_not, w_twice_late, w_twice_half, w_twice_change, w_twice_count, w_twice_by, w_twice_keep, w_twice_then, w_half_in, w_half_not, w_half_late, w_half_twice, w_half_change, w_half_count, w_half_by, w_half_keep, w_half_then, w_change_in, w_change_not, w_change_late, w_change_twice, w_change_half, w_change_count, w_change_by, w_change_keep, w_change_then, w_count_in, w_count_not, w_count_late, w_count_twice, w_count_half, w_count_change, w_count_by, w_count_keep, w_count_then, w_by_in, w_by_not, w_by_late, w_by_twice, w_by_half, w_by_change, w_by_count, w_by_keep, w_by_then, w_keep_in, w_keep_not, w_keep_late, w_keep_twice, w_keep_half, w_keep_change, w_keep_count, w_keep_by, w_keep_then, w_then_in, w_then_not, w_then_late, w_then_twice, w_then_half, w_then_change, w_then_count, w_then_by, w_then_keep, beq_self_eq_true, e_keep (n + 3) l m (by omega) cs, join_ok cs _ hz]
  exact fin_same (fr_str _) hc
/-! ### flow_at -/
def faC : L := (.comp [("part", 3)] (.nm 3) (.lst (.call 7 (.cons (.var 0) .nil))) .no (.call 10 (.cons (.var 3) (.cons (.var 1) .nil))))
theorem fa_body : (td_flow_at 0).fd.body = (.cons (.ifs (.cmp .Eq (.call 6 (.cons (.var 0) .nil)) (.cst (.str "in"))) (.cons (.asg (.nm 2) (.var 1)) .nil) (.cons (.ifs (.cmp .Eq (.call 6 (.cons (.var 0) .nil)) (.cst (.str "then"))) (.cons (.asg (.nm 2) (.call 10 (.cons (.idx (.var 0) (.cst (.int 2))) (.cons (.call 10 (.cons (.idx (.var 0) (.cst (.int 1))) (.cons (.var 1) .nil))) .nil)))) .nil) (.cons (.asg (.nm 2) (.call 11 (.cons (.var 0) (.cons (.new false faC) .nil)))) .nil)) .nil)) (.cons (.ifs (.cmp .Gt (.bi .len (.cons (.var 2) .nil)) (.glo "MOST_SIGNS_terms" (.int 8000))) (.cons .never .nil) .nil) (.cons (.ret (.var 2)) .nil))) := rfl
theorem wp3' (a b c d : Option D) : wipeE [a, b, c, d] [3] = [a, b, c, none] := rfl
theorem pt_len (t : Tm) : t.pt.length ≤ 2 := by cases t <;> simp [Tm.pt]
theorem e_parts (m : Nat) (t : Tm) (s : List Bool) (cs : Cells) (hc : Fz cs) (h : ∀ x ∈ t.pt, P (m + 2) 10 [x.d, .str (bs s)] cs = some (.str (bs (fl x s)), cs)) (x y : Option D) :
    evL (P (m + 2)) faC [some t.d, some (.str (bs s)), x, y] cs = some (t.pt.map fun x => .str (bs (fl x s)), cs) := by
  have hI : evI (P (m + 2)) (.lst (.call 7 (.cons (.var 0) .nil))) [some t.d, some (.str (bs s)), x, y] cs = some (.fz (t.pt.map Tm.d), cs) := by
    simp only [evSs, evS, evE, evT, evEs, evAnd, evOr, evTA, evTO, evG, evGs, evO, evC, evL, evI, cmpD, opD, augD, idxD, slcD, mtD, mtOk, biD, truD, seqOf, lstOf, srcL, List.map_cons, List.map_nil, List.cons_append, List.nil_append, List.getElem?_cons_zero, List.getElem?_cons_succ, List.getElem?_nil, List.set_cons_zero, List.set_cons_succ, List.length_cons, List.length_nil, List.replicate_succ, List.replicate_zero, Nat.reduceSub, Nat.reduceAdd, Bool.false_eq_true, if_false, if_true, le0, le1, le2, le3, le4, le5, Int.reduceAdd, Int.reduceMul, Bool.not_true, Bool.not_false, c_parts m t cs hc, pt_ps]
  unfold faC
  rw [evL, hI]
  dsimp only
  rw [comp1 Tm.d (fun x => some (.str (bs (fl x s)))) t.pt (fun i => rfl) (fun q hq => ?_) (Nat.le_trans (pt_len t) (by decide)) (by show _ < (t.pt.map Tm.d).length + 1; rw [List.length_map]; omega), List.filterMap_eq_map']
  · simp only [evSs, evS, evE, evT, evEs, evAnd, evOr, evTA, evTO, evG, evGs, evO, evC, evL, evI, cmpD, opD, augD, idxD, slcD, mtD, mtOk, biD, truD, seqOf, lstOf, srcL, List.map_cons, List.map_nil, List.cons_append, List.nil_append, List.getElem?_cons_zero, List.getElem?_cons_succ, List.getElem?_nil, List.set_cons_zero, List.set_cons_succ, List.length_cons, List.length_nil, List.replicate_succ, List.replicate_zero, Nat.reduceSub, Nat.reduceAdd, Bool.false_eq_true, if_false, if_true, le0, le1, le2, le3, le4, le5, Int.reduceAdd, Int.reduceMul, Bool.not_true, Bool.not_false, wp3', tg3, h q hq]

theorem sub_le {s : List Bool} {a b : Nat} (h : s.length * 2 ^ (b - 1) ≤ 8000) (hab : a ≤ b) : s.length * 2 ^ (a - 1) ≤ 8000 :=
  Nat.le_trans (Nat.mul_le_mul_left _ (Nat.pow_le_pow_right (by omega) (by omega))) h
theorem fl_8000 {t : Tm} {s : List Bool} (h : s.length * 2 ^ (t.sz - 1) ≤ 8000) : (fl t s).length ≤ 8000 := Nat.le_trans (fl_len t s) h
theorem c_flowat : ∀ (t : Tm) (s : List Bool) (N : Nat), t.sz + 5 ≤ N → s.length * 2 ^ (t.sz - 1) ≤ 8000 → ∀ cs, Fz cs → P N 10 [t.d, .str (bs s)] cs = some (.str (bs (fl t s)), cs)
  | .inn, s, N, hN, hs, cs, hc => by
    obtain ⟨n, rfl⟩ : ∃ n, N = n + 3 := ⟨N - 3, by simp only [Tm.sz] at hN; omega⟩
    have h8 := cap8
    have hf : s.length ≤ 8000 := fl_8000 (t := .inn) hs
    have h1 : s.length ≤ cap := by omega
    have h2 : decide ((8000 : Int) < (s.length : Int)) = false := decide_eq_false (by omega)
    rw [P_step (d := (td_flow_at 0).fd) rfl rfl, fa_body]
    simp only [Tm.d, td_flow_at, evSs, evS, evE, evT, evEs, evAnd, evOr, evTA, evTO, evG, evGs, evO, evC, evL, evI, cmpD, opD, augD, idxD, slcD, mtOk, biD, truD, seqOf, lstOf, srcL, List.map_cons, List.map_nil, List.cons_append, List.nil_append, List.getElem?_cons_zero, List.getElem?_cons_succ, List.getElem?_nil, List.set_cons_zero, List.set_cons_succ, List.length_cons, List.length_nil, List.replicate_succ, List.replicate_zero, Nat.reduceSub, Nat.reduceAdd, Bool.false_eq_true, if_false, if_true, le0, le1, le2, le3, le4, le5, Int.reduceAdd, Int.reduceMul, Bool.not_true, Bool.not_false, c_word_s _ _ _ hc, eqB_ss, beq_self_eq_true, bs_len, if_pos h1, h2, fl]
    exact fin_same (fr_str _) hc
  | .un u t, s, N, hN, hs, cs, hc => by
    have hp := t.sz_pos
    obtain ⟨n, rfl⟩ : ∃ n, N = n + 7 := ⟨N - 7, by simp only [Tm.sz] at hN; omega⟩
    have h8 := cap8
    have hf := fl_8000 hs
    have hst := sub_le (a := t.sz) hs (by simp only [Tm.sz]; omega)
    have hft := fl_8000 hst
    have ih := c_flowat t s (n + 6) (by simp only [Tm.sz] at hN; omega) hst cs hc
    have hP := e_parts (n + 4) (.un u t) s cs hc (fun x hx => by simp only [Tm.pt, List.mem_singleton] at hx; subst hx; exact ih) none none
    simp only [Tm.pt, List.map_cons, List.map_nil] at hP
    have hG := c_given_un (n + 2) u t (fl t s) (by omega) cs hc
    have hf' : (u.f (fl t s)).length ≤ 8000 := hf
    have h1 : (u.f (fl t s)).length ≤ cap := by omega
    have h2 : decide ((8000 : Int) < ((u.f (fl t s)).length : Int)) = false := decide_eq_false (by omega)
    have hw := c_word (n + 5) (.un u t) cs hc
    have hn1 : ((Tm.un u t).w == Str.ofString "in") = false := by cases u <;> first | exact w_not_in | exact w_twice_in | exact w_half_in | exact w_change_in | exact w_count_in
    have hn2 : ((Tm.un u t).w == Str.ofString "then") = false := by cases u <;> first | exact w_not_then | exact w_twice_then | exact w_half_then | exact w_change_then | exact w_count_then
    rw [P_step (d := (td_flow_at 0).fd) rfl rfl, fa_body]
    simp only [td_flow_at, evSs, evS, evE, evT, evEs, evAnd, evOr, evTA, evTO, evG, evGs, evO, evC, evL, evI, cmpD, opD, augD, idxD, slcD, mtOk, biD, truD, seqOf, lstOf, srcL, List.map_cons, List.map_nil, List.cons_append, List.nil_append, List.getElem?_cons_zero, List.getElem?_cons_succ, List.getElem?_nil, List.set_cons_zero, List.set_cons_succ, List.length_cons, List.length_nil, List.replicate_succ, List.replicate_zero, Nat.reduceSub, Nat.reduceAdd, Bool.false_eq_true, if_false, if_true, le0, le1, le2, le3, le4, le5, Int.reduceAdd, Int.reduceMul, Bool.not_true, Bool.not_false, hw, eqB_ss, hn1, hn2, hP, hG, fl, bs_len, if_pos h1, h2]
    exact fin_same (fr_str _) hc
  | .late c t, s, N, hN, hs, cs, hc => by
    have hp := t.sz_pos
    obtain ⟨n, rfl⟩ : ∃ n, N = n + 7 := ⟨N - 7, by simp only [Tm.sz] at hN; omega⟩
    have h8 := cap8
    have hf := fl_8000 hs
    have hst := sub_le (a := t.sz) hs (by simp only [Tm.sz]; omega)
    have hft := fl_8000 hst
    have ih := c_flowat t s (n + 6) (by simp only [Tm.sz] at hN; omega) hst cs hc
    have hP := e_parts (n + 4) (.late c t) s cs hc (fun x hx => by simp only [Tm.pt, List.mem_singleton] at hx; subst hx; exact ih) none none
    simp only [Tm.pt, List.map_cons, List.map_nil] at hP
    have hG := c_given_late (n + 2) c t (fl t s) (by omega) cs hc
    have hf' : (lateL c (fl t s)).length ≤ 8000 := hf
    have h1 : (lateL c (fl t s)).length ≤ cap := by omega
    have h2 : decide ((8000 : Int) < ((lateL c (fl t s)).length : Int)) = false := decide_eq_false (by omega)
    have hw := c_word (n + 5) (.late c t) cs hc
    have hn1 : ((Tm.late c t).w == Str.ofString "in") = false := w_late_in
    have hn2 : ((Tm.late c t).w == Str.ofString "then") = false := w_late_then
    rw [P_step (d := (td_flow_at 0).fd) rfl rfl, fa_body]
    simp only [td_flow_at, evSs, evS, evE, evT, evEs, evAnd, evOr, evTA, evTO, evG, evGs, evO, evC, evL, evI, cmpD, opD, augD, idxD, slcD, mtOk, biD, truD, seqOf, lstOf, srcL, List.map_cons, List.map_nil, List.cons_append, List.nil_append, List.getElem?_cons_zero, List.getElem?_cons_succ, List.getElem?_nil, List.set_cons_zero, List.set_cons_succ, List.length_cons, List.length_nil, List.replicate_succ, List.replicate_zero, Nat.reduceSub, Nat.reduceAdd, Bool.false_eq_true, if_false, if_true, le0, le1, le2, le3, le4, le5, Int.reduceAdd, Int.reduceMul, Bool.not_true, Bool.not_false, hw, eqB_ss, hn1, hn2, hP, hG, fl, bs_len, if_pos h1, h2]
    exact fin_same (fr_str _) hc
  | .bt a b c d t u, s, N, hN, hs, cs, hc => by
    have hp := t.sz_pos
    have hp2 := u.sz_pos
    obtain ⟨n, rfl⟩ : ∃ n, N = n + 7 := ⟨N - 7, by simp only [Tm.sz] at hN; omega⟩
    have h8 := cap8
    have hf := fl_8000 hs
    have hst := sub_le (a := t.sz) hs (by simp only [Tm.sz]; omega)
    have hsu := sub_le (a := u.sz) hs (by simp only [Tm.sz]; omega)
    have hft := fl_8000 hst
    have ih := c_flowat t s (n + 6) (by simp only [Tm.sz] at hN; omega) hst cs hc
    have ih2 := c_flowat u s (n + 6) (by simp only [Tm.sz] at hN; omega) hsu cs hc
    have hP := e_parts (n + 4) (.bt a b c d t u) s cs hc (fun x hx => by
      simp only [Tm.pt, List.mem_cons, List.not_mem_nil, or_false] at hx
      rcases hx with rfl | rfl
      · exact ih
      · exact ih2) none none
    simp only [Tm.pt, List.map_cons, List.map_nil] at hP
    have hG := c_given_by (n + 2) a b c d t u (fl t s) (fl u s) (by omega) cs hc
    have hf' : (List.zipWith (pk4 a b c d) (fl t s) (fl u s)).length ≤ 8000 := hf
    have h1 : (List.zipWith (pk4 a b c d) (fl t s) (fl u s)).length ≤ cap := by omega
    have h2 : decide ((8000 : Int) < ((List.zipWith (pk4 a b c d) (fl t s) (fl u s)).length : Int)) = false := decide_eq_false (by omega)
    have hw := c_word (n + 5) (.bt a b c d t u) cs hc
    have hn1 : ((Tm.bt a b c d t u).w == Str.ofString "in") = false := w_by_in
    have hn2 : ((Tm.bt a b c d t u).w == Str.ofString "then") = false := w_by_then
    rw [P_step (d := (td_flow_at 0).fd) rfl rfl, fa_body]
    simp only [td_flow_at, evSs, evS, evE, evT, evEs, evAnd, evOr, evTA, evTO, evG, evGs, evO, evC, evL, evI, cmpD, opD, augD, idxD, slcD, mtOk, biD, truD, seqOf, lstOf, srcL, List.map_cons, List.map_nil, List.cons_append, List.nil_append, List.getElem?_cons_zero, List.getElem?_cons_succ, List.getElem?_nil, List.set_cons_zero, List.set_cons_succ, List.length_cons, List.length_nil, List.replicate_succ, List.replicate_zero, Nat.reduceSub, Nat.reduceAdd, Bool.false_eq_true, if_false, if_true, le0, le1, le2, le3, le4, le5, Int.reduceAdd, Int.reduceMul, Bool.not_true, Bool.not_false, hw, eqB_ss, hn1, hn2, hP, hG, fl, bs_len, if_pos h1, h2]
    exact fin_same (fr_str _) hc
  | .kp t u, s, N, hN, hs, cs, hc => by
    have hp := t.sz_pos
    have hp2 := u.sz_pos
    obtain ⟨n, rfl⟩ : ∃ n, N = n + 7 := ⟨N - 7, by simp only [Tm.sz] at hN; omega⟩
    have h8 := cap8
    have hf := fl_8000 hs
    have hst := sub_le (a := t.sz) hs (by simp only [Tm.sz]; omega)
    have hsu := sub_le (a := u.sz) hs (by simp only [Tm.sz]; omega)
    have hft := fl_8000 hst
    have ih := c_flowat t s (n + 6) (by simp only [Tm.sz] at hN; omega) hst cs hc
    have ih2 := c_flowat u s (n + 6) (by simp only [Tm.sz] at hN; omega) hsu cs hc
    have hP := e_parts (n + 4) (.kp t u) s cs hc (fun x hx => by
      simp only [Tm.pt, List.mem_cons, List.not_mem_nil, or_false] at hx
      rcases hx with rfl | rfl
      · exact ih
      · exact ih2) none none
    simp only [Tm.pt, List.map_cons, List.map_nil] at hP
    have hG := c_given_kp (n + 2) t u (fl t s) (fl u s) (by omega) cs hc
    have hf' : (keepL (fl t s) (fl u s)).length ≤ 8000 := hf
    have h1 : (keepL (fl t s) (fl u s)).length ≤ cap := by omega
    have h2 : decide ((8000 : Int) < ((keepL (fl t s) (fl u s)).length : Int)) = false := decide_eq_false (by omega)
    have hw := c_word (n + 5) (.kp t u) cs hc
    have hn1 : ((Tm.kp t u).w == Str.ofString "in") = false := w_keep_in
    have hn2 : ((Tm.kp t u).w == Str.ofString "then") = false := w_keep_then
    rw [P_step (d := (td_flow_at 0).fd) rfl rfl, fa_body]
    simp only [td_flow_at, evSs, evS, evE, evT, evEs, evAnd, evOr, evTA, evTO, evG, evGs, evO, evC, evL, evI, cmpD, opD, augD, idxD, slcD, mtOk, biD, truD, seqOf, lstOf, srcL, List.map_cons, List.map_nil, List.cons_append, List.nil_append, List.getElem?_cons_zero, List.getElem?_cons_succ, List.getElem?_nil, List.set_cons_zero, List.set_cons_succ, List.length_cons, List.length_nil, List.replicate_succ, List.replicate_zero, Nat.reduceSub, Nat.reduceAdd, Bool.false_eq_true, if_false, if_true, le0, le1, le2, le3, le4, le5, Int.reduceAdd, Int.reduceMul, Bool.not_true, Bool.not_false, hw, eqB_ss, hn1, hn2, hP, hG, fl, bs_len, if_pos h1, h2]
    exact fin_same (fr_str _) hc
  | .th t u, s, N, hN, hs, cs, hc => by
    have hp := t.sz_pos
    have hp2 := u.sz_pos
    obtain ⟨n, rfl⟩ : ∃ n, N = n + 7 := ⟨N - 7, by simp only [Tm.sz] at hN; omega⟩
    have h8 := cap8
    have hf := fl_8000 hs
    have hf := fl_8000 hs
    have hst := sub_le (a := t.sz) hs (by simp only [Tm.sz]; omega)
    have hsu : (fl t s).length * 2 ^ (u.sz - 1) ≤ 8000 := by
      refine Nat.le_trans (Nat.mul_le_mul_right _ (fl_len t s)) (Nat.le_trans ?_ hs)
      rw [Nat.mul_assoc, ← Nat.pow_add]
      exact Nat.mul_le_mul_left _ (Nat.pow_le_pow_right (by omega) (by simp only [Tm.sz]; omega))
    have ih := c_flowat t s (n + 6) (by simp only [Tm.sz] at hN; omega) hst cs hc
    have ih2 := c_flowat u (fl t s) (n + 6) (by simp only [Tm.sz] at hN; omega) hsu cs hc
    have hf' : (fl u (fl t s)).length ≤ 8000 := hf
    have h1 : (fl u (fl t s)).length ≤ cap := by omega
    have h2 : decide ((8000 : Int) < ((fl u (fl t s)).length : Int)) = false := decide_eq_false (by omega)
    rw [P_step (d := (td_flow_at 0).fd) rfl rfl, fa_body]
    simp only [Tm.d, td_flow_at, evSs, evS, evE, evT, evEs, evAnd, evOr, evTA, evTO, evG, evGs, evO, evC, evL, evI, cmpD, opD, augD, idxD, slcD, mtOk, biD, truD, seqOf, lstOf, srcL, List.map_cons, List.map_nil, List.cons_append, List.nil_append, List.getElem?_cons_zero, List.getElem?_cons_succ, List.getElem?_nil, List.set_cons_zero, List.set_cons_succ, List.length_cons, List.length_nil, List.replicate_succ, List.replicate_zero, Nat.reduceSub, Nat.reduceAdd, Bool.false_eq_true, if_false, if_true, le0, le1, le2, le3, le4, le5, Int.reduceAdd, Int.reduceMul, Bool.not_true, Bool.not_false, c_word_t _ _ _ _ hc, eqB_ss, beq_self_eq_true, w_in_not, w_in_late, w_in_twice, w_in_half, w_in_change, w_in_count, w_in_by, w_in_keep, w_in_then, w_not_in, w_not_late, w_not_twice, w_not_half, w_not_change, w_not_count, w_not_by, w_not_keep, w_not_then, w_late_in, w_late_not, w_late_twice, w_late_half, w_late_change, w_late_count, w_late_by, w_late_keep, w_late_then, w_twice_in, w_twice_not, w_twice_late, w_twice_half, w_twice_change, w_twice_count, w_twice_by, w_twice_keep, w_twice_then, w_half_in, w_half_not, w_half_late, w_half_twice, w_half_change, w_half_count, w_half_by, w_half_keep, w_half_then, w_change_in, w_change_not, w_change_late, w_change_twice, w_change_half, w_change_count, w_change_by, w_change_keep, w_change_then, w_count_in, w_count_not, w_count_late, w_count_twice, w_count_half, w_count_change, w_count_by, w_count_keep, w_count_then, w_by_in, w_by_not, w_by_late, w_by_twice, w_by_half, w_by_change, w_by_count, w_by_keep, w_by_then, w_keep_in, w_keep_not, w_keep_late, w_keep_twice, w_keep_half, w_keep_change, w_keep_count, w_keep_by, w_keep_then, w_then_in, w_then_not, w_then_late, w_then_twice, w_then_half, w_then_change, w_then_count, w_then_by, w_then_keep, atI_1, atI_2, ih, ih2, fl, bs_len, if_pos h1, h2]
    exact fin_same (fr_str _) hc
theorem c_flowof {t : Tm} {s : List Bool} {N : Nat} (hN : t.sz + 6 ≤ N) (h9 : t.sz ≤ 9) (hl : s.length ≤ 1000) (hs : s.length * 2 ^ (t.sz - 1) ≤ 8000) (cs : Cells) (hc : Fz cs) : P N 8 [t.d, .str (bs s)] cs = some (.str (bs (fl t s)), cs) := by
  have hp := t.sz_pos
  obtain ⟨n, rfl⟩ : ∃ n, N = n + 7 := ⟨N - 7, by omega⟩
  have h1 := c_checkterm (n + 2) h9 cs hc
  have h2 := c_stream (n + 3) s hl cs hc
  have h3 := c_flowat t s (n + 6) (by omega) hs cs hc
  rw [P_step (d := (td_flow_of 0).fd) rfl rfl]
  simp only [td_flow_of, evSs, evS, evE, evT, evEs, evAnd, evOr, evTA, evTO, evG, evGs, evO, evC, evL, evI, cmpD, opD, augD, idxD, slcD, mtOk, biD, truD, seqOf, lstOf, srcL, List.map_cons, List.map_nil, List.cons_append, List.nil_append, List.getElem?_cons_zero, List.getElem?_cons_succ, List.getElem?_nil, List.set_cons_zero, List.set_cons_succ, List.length_cons, List.length_nil, List.replicate_succ, List.replicate_zero, Nat.reduceSub, Nat.reduceAdd, Bool.false_eq_true, if_false, if_true, le0, le1, le2, le3, le4, le5, Int.reduceAdd, Int.reduceMul, Bool.not_true, Bool.not_false, h1, h2, h3]
  exact fin_same (fr_str _) hc
end Mc
set_option Elab.async false
set_option linter.all false
set_option maxRecDepth 100000
set_option maxHeartbeats 2000000
namespace Mc
open PySem PySem.Spec PyProof.Rows L2
def lsC0 : L := (.comp [("_law_sign", 2)] (.nm 2) (.str (.var 1)) .no (.dsub [("0", "1"), ("1", "0")] (.var 2)))
def lsC1 : L := (.comp [("_law_sign", 2)] (.nm 2) (.str (.var 1)) .no (.op .Add (.var 2) (.var 2)))
def lsB : Ss := (.cons (.asg (.nm 5) (.ite (.cmp .NotEq (.var 2) (.var 4)) (.cst (.str "1")) (.cst (.str "0")))) (.cons (.ex (.mt .append (.var 3) (.cons (.var 5) .nil))) (.cons (.asg (.nm 4) (.ite (.cmp .Eq (.idx (.var 0) (.cst (.int 0))) (.cst (.str "change"))) (.var 2) (.var 5))) .nil)))
theorem ls_body : (td_law_single 0).fd.body = (.cons (.ifs (.cmp .Eq (.idx (.var 0) (.cst (.int 0))) (.cst (.str "not"))) (.cons (.ret (.mt .join (.cst (.str "")) (.cons (.new false lsC0) .nil))) .nil) .nil) (.cons (.ifs (.cmp .Eq (.idx (.var 0) (.cst (.int 0))) (.cst (.str "late"))) (.cons (.ret (.slc (.op .Add (.idx (.var 0) (.cst (.int 1))) (.var 1)) .no (.so (.bi .len (.cons (.var 1) .nil))))) .nil) .nil) (.cons (.ifs (.cmp .Eq (.idx (.var 0) (.cst (.int 0))) (.cst (.str "twice"))) (.cons (.ret (.mt .join (.cst (.str "")) (.cons (.new false lsC1) .nil))) .nil) .nil) (.cons (.ifs (.cmp .Eq (.idx (.var 0) (.cst (.int 0))) (.cst (.str "half"))) (.cons (.ret (.stp (.var 1) 1 2)) .nil) .nil) (.cons (.par [3, 4] (.cons (.new true (.disp .nil)) (.cons (.cst (.str "0")) .nil))) (.cons (.for (.nm 2) (.str (.var 1)) lsB) (.cons (.ret (.mt .join (.cst (.str "")) (.cons (.var 3) .nil))) .nil))))))) := rfl
theorem wp2 (a b c d e f : Option D) : wipeE [a, b, c, d, e, f] [2] = [a, b, none, d, e, f] := rfl
theorem tg2 : tgtIn [2] (.nm 2) = true := rfl
theorem ds_sg (b : Bool) : valV (mergeK [] (dkv [(Str.ofString "0", Str.ofString "1"), (Str.ofString "1", Str.ofString "0")])) (.inr (sg b)) = some (.str (sg (!b))) := by cases b <;> decide +kernel
theorem e_lnot (n : Nat) (l : List Bool) (hl : l.length ≤ cap) (cs : Cells) (a b c d e : Option D) : evL (P n) lsC0 [a, some (.str (bs l)), b, c, d, e] cs = some ((l.map not).map sD, cs) := by
  simp only [lsC0, evSs, evS, evE, evT, evEs, evAnd, evOr, evTA, evTO, evG, evGs, evO, evC, evL, evI, cmpD, opD, augD, idxD, slcD, mtD, mtOk, biD, truD, seqOf, lstOf, srcL, List.map_cons, List.map_nil, List.cons_append, List.nil_append, List.getElem?_cons_zero, List.getElem?_cons_succ, List.getElem?_nil, List.set_cons_zero, List.set_cons_succ, List.length_cons, List.length_nil, List.replicate_succ, List.replicate_zero, Nat.reduceSub, Nat.reduceAdd, Bool.false_eq_true, if_false, if_true, le0, le1, le2, le3, le4, le5, Int.reduceAdd, Int.reduceMul, Bool.not_true, Bool.not_false, wp2, bs_src, tg2, Src.fuel]
  rw [comp1 sD (fun b => some (sD (!b))) l (fun i => rfl) (fun b _ => ?_) hl (by rw [List.length_map]; omega), filterMap_sD]
  simp only [sD, ds_sg]
theorem e_ltw (n : Nat) (l : List Bool) (hl : l.length ≤ cap) (cs : Cells) (a b c d e : Option D) : evL (P n) lsC1 [a, some (.str (bs l)), b, c, d, e] cs = some ((l.map fun b => bs [b, b]).map D.str, cs) := by
  simp only [lsC1, evSs, evS, evE, evT, evEs, evAnd, evOr, evTA, evTO, evG, evGs, evO, evC, evL, evI, cmpD, opD, augD, idxD, slcD, mtD, mtOk, biD, truD, seqOf, lstOf, srcL, List.map_cons, List.map_nil, List.cons_append, List.nil_append, List.getElem?_cons_zero, List.getElem?_cons_succ, List.getElem?_nil, List.set_cons_zero, List.set_cons_succ, List.length_cons, List.length_nil, List.replicate_succ, List.replicate_zero, Nat.reduceSub, Nat.reduceAdd, Bool.false_eq_true, if_false, if_true, le0, le1, le2, le3, le4, le5, Int.reduceAdd, Int.reduceMul, Bool.not_true, Bool.not_false, wp2, bs_src, tg2, Src.fuel]
  rw [comp1 sD (fun b => some (.str (bs [b, b]))) l (fun i => rfl) (fun b _ => ?_) hl (by rw [List.length_map]; omega)]
  · rw [List.filterMap_eq_map', List.map_map]; rfl
  · have h1 : (sg b).length + (sg b).length ≤ cap := by rw [sg_len]; decide
    have h2 : sg b ++ sg b = bs [b, b] := bs_app [b] [b]
    simp only [sD, if_pos h1, h2]
/-- change and count in one: c: it is change -/
def scn (c : Bool) (l : List Bool) : List Bool := if c = true then chg false l else cnt false l
def scnLast (c : Bool) (l : List Bool) : Bool := if c = true then l.getLastD false else (cnt false l).getLastD false
theorem chg_snoc : ∀ (a : List Bool) (p x : Bool), chg p (a ++ [x]) = chg p a ++ [(a.getLastD p) != x]
  | [], _, _ => rfl
  | y :: r, p, x => by
    rw [List.cons_append, chg, chg_snoc r, chg, List.cons_append]
    congr 3
    cases r <;> simp [List.getLastD]
theorem scn_snoc (c : Bool) (a : List Bool) (x : Bool) : scn c (a ++ [x]) = scn c a ++ [x != scnLast c a] := by
  unfold scn scnLast
  cases c
  · simp only [Bool.false_eq_true, if_false]; rw [cnt_snoc]; congr 2; cases x <;> cases (cnt false a).getLastD false <;> rfl
  · simp only [if_true]; rw [chg_snoc]; congr 2; cases x <;> cases a.getLastD false <;> rfl
theorem scn_last (c : Bool) (a : List Bool) (x : Bool) : scnLast c (a ++ [x]) = if c = true then x else (x != scnLast c a) := by
  unfold scnLast
  cases c
  · simp only [Bool.false_eq_true, if_false]
    rw [cnt_snoc, List.getLastD_eq_getLast?, List.getLast?_append]
    simp only [List.getLast?_singleton, Option.some_or, Option.getD_some]
    cases x <;> cases (cnt false a).getLastD false <;> rfl
  · simp only [if_true]
    rw [List.getLastD_eq_getLast?, List.getLast?_append]; rfl
theorem scn_len (c : Bool) (l : List Bool) : (scn c l).length = l.length := by unfold scn; cases c <;> simp [chg_len, cnt_len]
theorem ls_step (n : Nat) (c : Bool) (w : Str) (hw : (w == Str.ofString "change") = c) (r : List D) (a : List Bool) (x : Bool) (ha : a.length < cap) (cs : Cells) (y z : Option D) (f : D) :
    evSs (P n) 1000 lsB [some (.tup (.str w :: r)), some f, some (sD x), some (.ref cs.length), some (.str (sg (scnLast c a))), z] (cs ++ [.lst ((scn c a).map sD)]) =
      some (.nx [some (.tup (.str w :: r)), some f, some (sD x), some (.ref cs.length), some (.str (sg (scnLast c (a ++ [x])))), some (sD (x != scnLast c a))] (cs ++ [.lst ((scn c (a ++ [x])).map sD)])) := by
  have h1 : ((scn c a).map sD).length < cap := by rw [List.length_map, scn_len]; exact ha
  have h2 : (scn c a).map sD ++ [sD (x != scnLast c a)] = (scn c (a ++ [x])).map sD := by rw [scn_snoc, List.map_append]; rfl
  have e1 : (Str.ofString "1") = sg true := s1
  have e0 : (Str.ofString "0") = sg false := s0
  rw [scn_last]
  rw [← h2]
  cases hx : (sg x == sg (scnLast c a)) with
  | true =>
    have hb : (x != scnLast c a) = false := by rw [sg_eq] at hx; rw [eq_of_beq hx]; simp
    rw [hb] at h2 ⊢
    simp only [lsB, evSs, evS, evE, evT, evEs, evAnd, evOr, evTA, evTO, evG, evGs, evO, evC, evL, evI, cmpD, opD, augD, idxD, slcD, mtD, mtOk, biD, truD, seqOf, lstOf, srcL, List.map_cons, List.map_nil, List.cons_append, List.nil_append, List.getElem?_cons_zero, List.getElem?_cons_succ, List.getElem?_nil, List.set_cons_zero, List.set_cons_succ, List.length_cons, List.length_nil, List.replicate_succ, List.replicate_zero, Nat.reduceSub, Nat.reduceAdd, Bool.false_eq_true, if_false, if_true, le0, le1, le2, le3, le4, le5, Int.reduceAdd, Int.reduceMul, Bool.not_true, Bool.not_false, sD, eqB_ss, hx, e0, e1, cell_at1, h1, atI_0, hw] at h2 ⊢
    cases c <;> simp only [evSs, evS, evE, evT, evEs, evAnd, evOr, evTA, evTO, evG, evGs, evO, evC, evL, evI, cmpD, opD, augD, idxD, slcD, mtD, mtOk, biD, truD, seqOf, lstOf, srcL, List.map_cons, List.map_nil, List.cons_append, List.nil_append, List.getElem?_cons_zero, List.getElem?_cons_succ, List.getElem?_nil, List.set_cons_zero, List.set_cons_succ, List.length_cons, List.length_nil, List.replicate_succ, List.replicate_zero, Nat.reduceSub, Nat.reduceAdd, Bool.false_eq_true, if_false, if_true, le0, le1, le2, le3, le4, le5, Int.reduceAdd, Int.reduceMul, Bool.not_true, Bool.not_false, cell_set1, sD, if_pos h1]
  | false =>
    have hb : (x != scnLast c a) = true := by rw [sg_eq] at hx; rw [bne, hx]; rfl
    rw [hb] at h2 ⊢
    simp only [lsB, evSs, evS, evE, evT, evEs, evAnd, evOr, evTA, evTO, evG, evGs, evO, evC, evL, evI, cmpD, opD, augD, idxD, slcD, mtD, mtOk, biD, truD, seqOf, lstOf, srcL, List.map_cons, List.map_nil, List.cons_append, List.nil_append, List.getElem?_cons_zero, List.getElem?_cons_succ, List.getElem?_nil, List.set_cons_zero, List.set_cons_succ, List.length_cons, List.length_nil, List.replicate_succ, List.replicate_zero, Nat.reduceSub, Nat.reduceAdd, Bool.false_eq_true, if_false, if_true, le0, le1, le2, le3, le4, le5, Int.reduceAdd, Int.reduceMul, Bool.not_true, Bool.not_false, sD, eqB_ss, hx, e0, e1, cell_at1, h1, atI_0, hw] at h2 ⊢
    cases c <;> simp only [evSs, evS, evE, evT, evEs, evAnd, evOr, evTA, evTO, evG, evGs, evO, evC, evL, evI, cmpD, opD, augD, idxD, slcD, mtD, mtOk, biD, truD, seqOf, lstOf, srcL, List.map_cons, List.map_nil, List.cons_append, List.nil_append, List.getElem?_cons_zero, List.getElem?_cons_succ, List.getElem?_nil, List.set_cons_zero, List.set_cons_succ, List.length_cons, List.length_nil, List.replicate_succ, List.replicate_zero, Nat.reduceSub, Nat.reduceAdd, Bool.false_eq_true, if_false, if_true, le0, le1, le2, le3, le4, le5, Int.reduceAdd, Int.reduceMul, Bool.not_true, Bool.not_false, cell_set1, sD, if_pos h1]
theorem ls_tail (n : Nat) (c : Bool) (w : Str) (hw : (w == Str.ofString "change") = c) (h1 : (w == Str.ofString "not") = false) (h2 : (w == Str.ofString "late") = false) (h3 : (w == Str.ofString "twice") = false) (h4 : (w == Str.ofString "half") = false) (r : List D) (l : List Bool) (hl : l.length ≤ 20000) (cs : Cells) (hc : Fz cs) :
    P (n + 1) 19 [.tup (.str w :: r), .str (bs l)] cs = some (.str (bs (scn c l)), cs) := by
  have h8 := cap8
  obtain ⟨env', cs', g1, g2⟩ := for_inv (src := .fz (l.map sD)) (ds := l.map sD)
    (f := fun d env1 cs2 => evSs (P n) 1000 lsB (List.set env1 2 (some d)) cs2)
    (fun i env cs1 => cs1 = cs ++ [.lst ((scn c (l.take i)).map sD)] ∧ ∃ y z, env = [some (.tup (.str w :: r)), some (.str (bs l)), y, some (.ref cs.length), some (.str (sg (scnLast c (l.take i)))), z]) (fun i env cs _ => rfl)
    (fun i d env cs1 e hI => by
      obtain ⟨rfl, y, z, rfl⟩ := hI
      rw [List.getElem?_map] at e
      cases e2 : l[i]? with
      | none => rw [e2] at e; cases e
      | some b =>
        rw [e2] at e; cases e
        have e3 : l.take (i + 1) = l.take i ++ [b] := by rw [List.take_add_one, e2]; rfl
        have hi := (List.getElem?_eq_some_iff.mp e2).1
        have st := ls_step n c w hw r (l.take i) b (by rw [List.length_take]; omega) cs none z (.str (bs l))
        rw [← e3] at st
        exact ⟨_, _, st, rfl, _, _, rfl⟩)
    ((l.map sD).length + 1) 0 [some (.tup (.str w :: r)), some (.str (bs l)), none, some (.ref cs.length), some (.str (Str.ofString "0")), none] (cs ++ [.lst []]) (by omega) (Nat.zero_le _)
      ⟨by cases c <;> rfl, none, none, by rw [s0]; cases c <;> rfl⟩
  obtain ⟨rfl, y, z, rfl⟩ := g2
  rw [List.length_map, List.take_length] at g1
  rw [P_step (d := (td_law_single 0).fd) rfl rfl, ls_body]
  have hj : (scn c l).length ≤ cap := by rw [scn_len]; omega
  have jn : mtD (cs ++ [.lst ((scn c l).map sD)]) .join (.str (Str.ofString "")) [.ref cs.length] = some (.str (bs (scn c l)), cs ++ [.lst ((scn c l).map sD)]) := by
    simp only [mtD, seqOf, cell_at1, strsOf_sg]
    rw [sum_sg, if_pos hj, join_sg]
  simp only [td_law_single, evSs, evS, evE, evT, evEs, evAnd, evOr, evTA, evTO, evG, evGs, evO, evC, evL, evI, cmpD, opD, augD, idxD, slcD, mtOk, biD, truD, seqOf, lstOf, srcL, List.map_cons, List.map_nil, List.cons_append, List.nil_append, List.getElem?_cons_zero, List.getElem?_cons_succ, List.getElem?_nil, List.set_cons_zero, List.set_cons_succ, List.length_cons, List.length_nil, List.replicate_succ, List.replicate_zero, Nat.reduceSub, Nat.reduceAdd, Bool.false_eq_true, if_false, if_true, le0, le1, le2, le3, le4, le5, Int.reduceAdd, Int.reduceMul, Bool.not_true, Bool.not_false, eqB_ss, h1, h2, h3, h4, atI_0, bs_src, Src.fuel, List.zip_cons_cons, List.zip_nil_left, List.foldl_cons, List.foldl_nil, List.length_map]
  rw [g1]
  simp only [evSs, evS, evE, evT, evEs, evAnd, evOr, evTA, evTO, evG, evGs, evO, evC, evL, evI, cmpD, opD, augD, idxD, slcD, mtOk, biD, truD, seqOf, lstOf, srcL, List.map_cons, List.map_nil, List.cons_append, List.nil_append, List.getElem?_cons_zero, List.getElem?_cons_succ, List.getElem?_nil, List.set_cons_zero, List.set_cons_succ, List.length_cons, List.length_nil, List.replicate_succ, List.replicate_zero, Nat.reduceSub, Nat.reduceAdd, Bool.false_eq_true, if_false, if_true, le0, le1, le2, le3, le4, le5, Int.reduceAdd, Int.reduceMul, Bool.not_true, Bool.not_false, jn]
  exact fin_at (fr_str _) hc
theorem c_single_un (n : Nat) (u : U) (t : Tm) (l : List Bool) (hl : l.length ≤ 20000) (cs : Cells) (hc : Fz cs) : P (n + 1) 19 [(Tm.un u t).d, .str (bs l)] cs = some (.str (bs (u.f l)), cs) := by
  have h8 := cap8
  cases u with
  | nt =>
    rw [P_step (d := (td_law_single 0).fd) rfl rfl, ls_body]
    simp only [Tm.d, U.w, td_law_single, evSs, evS, evE, evT, evEs, evAnd, evOr, evTA, evTO, evG, evGs, evO, evC, evL, evI, cmpD, opD, augD, idxD, slcD, mtOk, biD, truD, seqOf, lstOf, srcL, List.map_cons, List.map_nil, List.cons_append, List.nil_append, List.getElem?_cons_zero, List.getElem?_cons_succ, List.getElem?_nil, List.set_cons_zero, List.set_cons_succ, List.length_cons, List.length_nil, List.replicate_succ, List.replicate_zero, Nat.reduceSub, Nat.reduceAdd, Bool.false_eq_true, if_false, if_true, le0, le1, le2, le3, le4, le5, Int.reduceAdd, Int.reduceMul, Bool.not_true, Bool.not_false, eqB_ss, beq_self_eq_true, atI_0, e_lnot n l (by omega) cs, join_ok cs _ (show (l.map not).length ≤ cap by rw [List.length_map]; omega)]
    exact fin_same (fr_str _) hc
  | tw =>
    rw [P_step (d := (td_law_single 0).fd) rfl rfl, ls_body]
    simp only [Tm.d, U.w, td_law_single, evSs, evS, evE, evT, evEs, evAnd, evOr, evTA, evTO, evG, evGs, evO, evC, evL, evI, cmpD, opD, augD, idxD, slcD, mtOk, biD, truD, seqOf, lstOf, srcL, List.map_cons, List.map_nil, List.cons_append, List.nil_append, List.getElem?_cons_zero, List.getElem?_cons_succ, List.getElem?_nil, List.set_cons_zero, List.set_cons_succ, List.length_cons, List.length_nil, List.replicate_succ, List.replicate_zero, Nat.reduceSub, Nat.reduceAdd, Bool.false_eq_true, if_false, if_true, le0, le1, le2, le3, le4, le5, Int.reduceAdd, Int.reduceMul, Bool.not_true, Bool.not_false, eqB_ss, beq_self_eq_true, w_in_not, w_in_late, w_in_twice, w_in_half, w_in_change, w_in_count, w_in_by, w_in_keep, w_in_then, w_not_in, w_not_late, w_not_twice, w_not_half, w_not_change, w_not_count, w_not_by, w_not_keep, w_not_then, w_late_in, w_late_not, w_late_twice, w_late_half, w_late_change, w_late_count, w_late_by, w_late_keep, w_late_then, w_twice_in, w_twice_not, w_twice_late, w_twice_half, w_twice_change, w_twice_count, w_twice_by, w_twice_keep, w_twice_then, w_half_in, w_half_not, w_half_late, w_half_twice, w_half_change, w_half_count, w_half_by, w_half_keep, w_half_then, w_change_in, w_change_not, w_change_late, w_change_twice, w_change_half, w_change_count, w_change_by, w_change_keep, w_change_then, w_count_in, w_count_not, w_count_late, w_count_twice, w_count_half, w_count_change, w_count_by, w_count_keep, w_count_then, w_by_in, w_by_not, w_by_late, w_by_twice, w_by_half, w_by_change, w_by_count, w_by_keep, w_by_then, w_keep_in, w_keep_not, w_keep_late, w_keep_twice, w_keep_half, w_keep_change, w_keep_count, w_keep_by, w_keep_then, w_then_in, w_then_not, w_then_late, w_then_twice, w_then_half, w_then_change, w_then_count, w_then_by, w_then_keep, atI_0, e_ltw n l (by omega) cs, join_tw cs l (by omega)]
    exact fin_same (fr_str _) hc
  | hf =>
    have h2 : (bs l).length ≤ cap ∧ (2 : Int) ≠ 0 := ⟨by rw [bs_len]; omega, by decide⟩
    rw [P_step (d := (td_law_single 0).fd) rfl rfl, ls_body]
    simp only [Tm.d, U.w, td_law_single, evSs, evS, evE, evT, evEs, evAnd, evOr, evTA, evTO, evG, evGs, evO, evC, evL, evI, cmpD, opD, augD, idxD, slcD, mtOk, biD, truD, seqOf, lstOf, srcL, List.map_cons, List.map_nil, List.cons_append, List.nil_append, List.getElem?_cons_zero, List.getElem?_cons_succ, List.getElem?_nil, List.set_cons_zero, List.set_cons_succ, List.length_cons, List.length_nil, List.replicate_succ, List.replicate_zero, Nat.reduceSub, Nat.reduceAdd, Bool.false_eq_true, if_false, if_true, le0, le1, le2, le3, le4, le5, Int.reduceAdd, Int.reduceMul, Bool.not_true, Bool.not_false, eqB_ss, beq_self_eq_true, w_in_not, w_in_late, w_in_twice, w_in_half, w_in_change, w_in_count, w_in_by, w_in_keep, w_in_then, w_not_in, w_not_late, w_not_twice, w_not_half, w_not_change, w_not_count, w_not_by, w_not_keep, w_not_then, w_late_in, w_late_not, w_late_twice, w_late_half, w_late_change, w_late_count, w_late_by, w_late_keep, w_late_then, w_twice_in, w_twice_not, w_twice_late, w_twice_half, w_twice_change, w_twice_count, w_twice_by, w_twice_keep, w_twice_then, w_half_in, w_half_not, w_half_late, w_half_twice, w_half_change, w_half_count, w_half_by, w_half_keep, w_half_then, w_change_in, w_change_not, w_change_late, w_change_twice, w_change_half, w_change_count, w_change_by, w_change_keep, w_change_then, w_count_in, w_count_not, w_count_late, w_count_twice, w_count_half, w_count_change, w_count_by, w_count_keep, w_count_then, w_by_in, w_by_not, w_by_late, w_by_twice, w_by_half, w_by_change, w_by_count, w_by_keep, w_by_then, w_keep_in, w_keep_not, w_keep_late, w_keep_twice, w_keep_half, w_keep_change, w_keep_count, w_keep_by, w_keep_then, w_then_in, w_then_not, w_then_late, w_then_twice, w_then_half, w_then_change, w_then_count, w_then_by, w_then_keep, atI_0, if_pos h2, stp_bs]
    exact fin_same (fr_str _) hc
  | ch => exact ls_tail n true "change" (by rw [beq_self_eq_true]) w_change_not w_change_late w_change_twice w_change_half _ l hl cs hc
  | ct => exact ls_tail n false "count" w_count_change w_count_not w_count_late w_count_twice w_count_half _ l hl cs hc
theorem c_single_late (n : Nat) (c : Bool) (t : Tm) (l : List Bool) (hl : l.length ≤ 20000) (cs : Cells) (hc : Fz cs) : P (n + 1) 19 [(Tm.late c t).d, .str (bs l)] cs = some (.str (bs (lateL c l)), cs) := by
  have h8 := cap8
  have h1 : (sg c).length + l.length ≤ cap := by rw [sg_len]; omega
  have h2 : sg c ++ bs l = bs (c :: l) := bs_app [c] l
  have h3 : l.length + 1 ≤ cap := by omega
  have h4 : l.length ≤ cap := by omega
  rw [P_step (d := (td_law_single 0).fd) rfl rfl, ls_body]
  simp only [Tm.d, td_law_single, evSs, evS, evE, evT, evEs, evAnd, evOr, evTA, evTO, evG, evGs, evO, evC, evL, evI, cmpD, opD, augD, idxD, slcD, mtOk, biD, truD, seqOf, lstOf, srcL, List.map_cons, List.map_nil, List.cons_append, List.nil_append, List.getElem?_cons_zero, List.getElem?_cons_succ, List.getElem?_nil, List.set_cons_zero, List.set_cons_succ, List.length_cons, List.length_nil, List.replicate_succ, List.replicate_zero, Nat.reduceSub, Nat.reduceAdd, Bool.false_eq_true, if_false, if_true, le0, le1, le2, le3, le4, le5, Int.reduceAdd, Int.reduceMul, Bool.not_true, Bool.not_false, eqB_ss, w_in_not, w_in_late, w_in_twice, w_in_half, w_in_change, w_in_count, w_in_by, w_in_keep, w_in_then, w_not_in, w_not_late, w_not_twice, w_not_half, w_not_change, w_not_count, w_not_by, w_not_keep, w_not_then, w_late_in, w_late_not, w_late_twice, w_late_half, w_late_change, w_late_count, w_late_by, w_late_keep, w_late_then, w_twice_in, w_twice_not, w_twice_late, w_twice_half, w_twice_change, w_twice_count, w_twice_by, w_twice_keep, w_twice_then, w_half_in, w_half_not, w_half_late, w_half_twice, w_half_change, w_half_count, w_half_by, w_half_keep, w_half_then, w_change_in, w_change_not, w_change_late, w_change_twice, w_change_half, w_change_count, w_change_by, w_change_keep, w_change_then, w_count_in, w_count_not, w_count_late, w_count_twice, w_count_half, w_count_change, w_count_by, w_count_keep, w_count_then, w_by_in, w_by_not, w_by_late, w_by_twice, w_by_half, w_by_change, w_by_count, w_by_keep, w_by_then, w_keep_in, w_keep_not, w_keep_late, w_keep_twice, w_keep_half, w_keep_change, w_keep_count, w_keep_by, w_keep_then, w_then_in, w_then_not, w_then_late, w_then_twice, w_then_half, w_then_change, w_then_count, w_then_by, w_then_keep, beq_self_eq_true, atI_0, atI_1, if_pos h1, h2, bs_len, if_pos h4, if_pos h3, bs_cut]
  exact fin_same (fr_str _) hc
end Mc
set_option Elab.async false
set_option linter.all false
set_option maxRecDepth 100000
set_option maxHeartbeats 2000000
namespace Mc
open PySem PySem.Spec PyProof.Rows L2
def lfC0 : L := (.comp [("_law_sign", 3), ("_law_mark", 4)] (.tp (.cons (.nm 3) (.cons (.nm 4) .nil))) (.lst (.var 2)) (.so (.cmp .Eq (.var 4) (.cst (.str "1")))) (.var 3))
def lfC1 : L := (.comp [("_law_sign", 3), ("_law_mark", 4)] (.tp (.cons (.nm 3) (.cons (.nm 4) .nil))) (.lst (.var 2)) .no (.idx (.idx (.var 0) (.cst (.int 1))) (.op .Add (.op .Mult (.cst (.int 2)) (.bi .int (.cons (.var 3) .nil))) (.bi .int (.cons (.var 4) .nil)))))
theorem lf_body : (td_law_flow 0).fd.body = (.cons (.ifs (.cmp .Eq (.var 0) (.cst (.str "in"))) (.cons (.ret (.var 1)) .nil) .nil) (.cons (.ifs (.cmp .Eq (.idx (.var 0) (.cst (.int 0))) (.cst (.str "then"))) (.cons (.ret (.call 20 (.cons (.idx (.var 0) (.cst (.int 2))) (.cons (.call 20 (.cons (.idx (.var 0) (.cst (.int 1))) (.cons (.var 1) .nil))) .nil)))) .nil) .nil) (.cons (.ifs (.cmp .NotIn (.idx (.var 0) (.cst (.int 0))) (.tup (.cons (.cst (.str "by")) (.cons (.cst (.str "keep")) .nil)))) (.cons (.ret (.call 19 (.cons (.var 0) (.cons (.call 20 (.cons (.idx (.var 0) (.neg (.cst (.int 1)))) (.cons (.var 1) .nil))) .nil)))) .nil) .nil) (.cons (.asg (.nm 2) (.new false (.zipL (.call 20 (.cons (.idx (.var 0) (.neg (.cst (.int 2)))) (.cons (.var 1) .nil))) (.call 20 (.cons (.idx (.var 0) (.neg (.cst (.int 1)))) (.cons (.var 1) .nil)))))) (.cons (.ifs (.cmp .Eq (.idx (.var 0) (.cst (.int 0))) (.cst (.str "keep"))) (.cons (.ret (.mt .join (.cst (.str "")) (.cons (.new false lfC0) .nil))) .nil) .nil) (.cons (.ret (.mt .join (.cst (.str "")) (.cons (.new false lfC1) .nil))) .nil)))))) := rfl
theorem inB_w (cs : Cells) (w : Str) : inB cs (.str w) (.tup [.str (Str.ofString "by"), .str (Str.ofString "keep")]) = some ((Str.ofString "by" == w) || ((Str.ofString "keep" == w) || false)) := by
  simp only [inB, flatB, List.all_cons, List.all_nil, Bool.and_self, if_true, List.any_cons, List.any_nil, eqF]
theorem am2 (a b : D) : atI [a, b] (-1) = some b := rfl
theorem am3 (a b c : D) : atI [a, b, c] (-1) = some c := rfl
theorem am4 (a b c d : D) : atI [a, b, c, d] (-1) = some d := rfl
theorem an3 (a b c : D) : atI [a, b, c] (-2) = some b := rfl
theorem an4 (a b c d : D) : atI [a, b, c, d] (-2) = some c := rfl
theorem bs_size (l : List Bool) : (bs l).cps.size = l.length := by simp [bs]
theorem zip_pD (a b : List Bool) : zipD (bs a) (bs b) = (a.zip b).map pD := by
  rw [bs_zip, List.zip, List.map_zipWith]; rfl
theorem e_lkeep (n : Nat) (l m : List Bool) (hl : l.length ≤ cap) (cs : Cells) (a b c d : Option D) : evL (P n) lfC0 [a, b, some (.lst ((l.zip m).map pD)), c, d] cs = some ((keepL l m).map sD, cs) := by
  have hI : evI (P n) (.lst (.var 2)) [a, b, some (.lst ((l.zip m).map pD)), c, d] cs = some (.fz ((l.zip m).map pD), cs) := by
    simp only [evSs, evS, evE, evT, evEs, evAnd, evOr, evTA, evTO, evG, evGs, evO, evC, evL, evI, cmpD, opD, augD, idxD, slcD, mtD, mtOk, biD, truD, seqOf, lstOf, srcL, List.map_cons, List.map_nil, List.cons_append, List.nil_append, List.getElem?_cons_zero, List.getElem?_cons_succ, List.getElem?_nil, List.set_cons_zero, List.set_cons_succ, List.length_cons, List.length_nil, List.replicate_succ, List.replicate_zero, Nat.reduceSub, Nat.reduceAdd, Bool.false_eq_true, if_false, if_true, le0, le1, le2, le3, le4, le5, Int.reduceAdd, Int.reduceMul, Bool.not_true, Bool.not_false]
  unfold lfC0
  rw [evL, hI]
  dsimp only
  rw [comp1 pD (fun p => if p.2 = true then some (sD p.1) else none) (l.zip m) (fun i => rfl) (fun p _ => ?_) (Nat.le_trans (zip_len _ _) hl) (by show _ < ((l.zip m).map pD).length + 1; rw [List.length_map]; omega), keep_zip]
  obtain ⟨x, y⟩ := p
  simp only [pD, sD, evSs, evS, evE, evT, evEs, evAnd, evOr, evTA, evTO, evG, evGs, evO, evC, evL, evI, cmpD, opD, augD, idxD, slcD, mtD, mtOk, biD, truD, seqOf, lstOf, srcL, List.map_cons, List.map_nil, List.cons_append, List.nil_append, List.getElem?_cons_zero, List.getElem?_cons_succ, List.getElem?_nil, List.set_cons_zero, List.set_cons_succ, List.length_cons, List.length_nil, List.replicate_succ, List.replicate_zero, Nat.reduceSub, Nat.reduceAdd, Bool.false_eq_true, if_false, if_true, le0, le1, le2, le3, le4, le5, Int.reduceAdd, Int.reduceMul, Bool.not_true, Bool.not_false, wp34, tg34, eqB_ss, sg1]
  cases y <;> simp only [evSs, evS, evE, evT, evEs, evAnd, evOr, evTA, evTO, evG, evGs, evO, evC, evL, evI, cmpD, opD, augD, idxD, slcD, mtD, mtOk, biD, truD, seqOf, lstOf, srcL, List.map_cons, List.map_nil, List.cons_append, List.nil_append, List.getElem?_cons_zero, List.getElem?_cons_succ, List.getElem?_nil, List.set_cons_zero, List.set_cons_succ, List.length_cons, List.length_nil, List.replicate_succ, List.replicate_zero, Nat.reduceSub, Nat.reduceAdd, Bool.false_eq_true, if_false, if_true, le0, le1, le2, le3, le4, le5, Int.reduceAdd, Int.reduceMul, Bool.not_true, Bool.not_false]
theorem e_lby (n : Nat) (a b c d : Bool) (w : D) (r : List D) (l m : List Bool) (hl : l.length ≤ cap) (cs : Cells) (x y z : Option D) : evL (P n) lfC1 [some (.tup (w :: .str (bs [a, b, c, d]) :: r)), x, some (.lst ((l.zip m).map pD)), y, z] cs = some ((List.zipWith (pk4 a b c d) l m).map sD, cs) := by
  have hI : evI (P n) (.lst (.var 2)) [some (.tup (w :: .str (bs [a, b, c, d]) :: r)), x, some (.lst ((l.zip m).map pD)), y, z] cs = some (.fz ((l.zip m).map pD), cs) := by
    simp only [evSs, evS, evE, evT, evEs, evAnd, evOr, evTA, evTO, evG, evGs, evO, evC, evL, evI, cmpD, opD, augD, idxD, slcD, mtD, mtOk, biD, truD, seqOf, lstOf, srcL, List.map_cons, List.map_nil, List.cons_append, List.nil_append, List.getElem?_cons_zero, List.getElem?_cons_succ, List.getElem?_nil, List.set_cons_zero, List.set_cons_succ, List.length_cons, List.length_nil, List.replicate_succ, List.replicate_zero, Nat.reduceSub, Nat.reduceAdd, Bool.false_eq_true, if_false, if_true, le0, le1, le2, le3, le4, le5, Int.reduceAdd, Int.reduceMul, Bool.not_true, Bool.not_false]
  unfold lfC1
  rw [evL, hI]
  dsimp only
  rw [comp1 pD (fun p => some (sD (pk4 a b c d p.1 p.2))) (l.zip m) (fun i => rfl) (fun p _ => ?_) (Nat.le_trans (zip_len _ _) hl) (by show _ < ((l.zip m).map pD).length + 1; rw [List.length_map]; omega), filterMap_sD, by_zip]
  obtain ⟨p, q⟩ := p
  have h1 : (sg p).length ≤ 640 ∧ (sg q).length ≤ 640 := ⟨by rw [sg_len]; decide, by rw [sg_len]; decide⟩
  have h2 : (bs [a, b, c, d]).length ≤ cap := by rw [bs_len]; show 4 ≤ cap; decide
  have h3 : ((-(2 ^ 64) : Int) < 2 ∧ (2 : Int) < 2 ^ 64) := ⟨by decide, by decide⟩
  have h4 : ∀ k : Int, ((-(2 ^ 64) : Int) < 2 ∧ (2 : Int) < 2 ^ 64) ∨ (-(2 ^ 64) : Int) < k ∧ k < 2 ^ 64 := fun k => .inl h3
  simp only [pD, sD, evSs, evS, evE, evT, evEs, evAnd, evOr, evTA, evTO, evG, evGs, evO, evC, evL, evI, cmpD, opD, augD, idxD, slcD, mtD, mtOk, biD, truD, seqOf, lstOf, srcL, List.map_cons, List.map_nil, List.cons_append, List.nil_append, List.getElem?_cons_zero, List.getElem?_cons_succ, List.getElem?_nil, List.set_cons_zero, List.set_cons_succ, List.length_cons, List.length_nil, List.replicate_succ, List.replicate_zero, Nat.reduceSub, Nat.reduceAdd, Bool.false_eq_true, if_false, if_true, le0, le1, le2, le3, le4, le5, Int.reduceAdd, Int.reduceMul, Bool.not_true, Bool.not_false, wp34, tg34, sg_int, atI_1, if_pos h1.1, if_pos h1.2, if_pos (h4 _), if_pos h2]
  cases p <;> cases q <;> simp only [evSs, evS, evE, evT, evEs, evAnd, evOr, evTA, evTO, evG, evGs, evO, evC, evL, evI, cmpD, opD, augD, idxD, slcD, mtD, mtOk, biD, truD, seqOf, lstOf, srcL, List.map_cons, List.map_nil, List.cons_append, List.nil_append, List.getElem?_cons_zero, List.getElem?_cons_succ, List.getElem?_nil, List.set_cons_zero, List.set_cons_succ, List.length_cons, List.length_nil, List.replicate_succ, List.replicate_zero, Nat.reduceSub, Nat.reduceAdd, Bool.false_eq_true, if_false, if_true, le0, le1, le2, le3, le4, le5, Int.reduceAdd, Int.reduceMul, Bool.not_true, Bool.not_false, Int.add_zero, Int.mul_zero, Int.mul_one, at4_0, at4_1, at4_2, at4_3] <;> rfl
theorem c_lflow : ∀ (t : Tm) (s : List Bool) (N : Nat), t.sz + 1 ≤ N → t.sz ≤ 60 → s.length * 2 ^ (t.sz - 1) ≤ 8000 → ∀ cs, Fz cs → P N 20 [t.d, .str (bs s)] cs = some (.str (bs (fl t s)), cs)
  | .inn, s, N, hN, h60, hs, cs, hc => by
    obtain ⟨n, rfl⟩ : ∃ n, N = n + 1 := ⟨N - 1, by simp only [Tm.sz] at hN; omega⟩
    rw [P_step (d := (td_law_flow 0).fd) rfl rfl, lf_body]
    simp only [Tm.d, td_law_flow, evSs, evS, evE, evT, evEs, evAnd, evOr, evTA, evTO, evG, evGs, evO, evC, evL, evI, cmpD, opD, augD, idxD, slcD, mtOk, biD, truD, seqOf, lstOf, srcL, List.map_cons, List.map_nil, List.cons_append, List.nil_append, List.getElem?_cons_zero, List.getElem?_cons_succ, List.getElem?_nil, List.set_cons_zero, List.set_cons_succ, List.length_cons, List.length_nil, List.replicate_succ, List.replicate_zero, Nat.reduceSub, Nat.reduceAdd, Bool.false_eq_true, if_false, if_true, le0, le1, le2, le3, le4, le5, Int.reduceAdd, Int.reduceMul, Bool.not_true, Bool.not_false, eqB_ss, beq_self_eq_true, fl]
    exact fin_same (fr_str _) hc
  | .un u t, s, N, hN, h60, hs, cs, hc => by
    have hp := t.sz_pos
    obtain ⟨n, rfl⟩ : ∃ n, N = n + 3 := ⟨N - 3, by simp only [Tm.sz] at hN; omega⟩
    have hst := sub_le (a := t.sz) hs (by simp only [Tm.sz]; omega)
    have hft := fl_8000 hst
    have ih := c_lflow t s (n + 2) (by simp only [Tm.sz] at hN; omega) (by simp only [Tm.sz] at h60; omega) hst cs hc
    have hG := c_single_un (n + 1) u t (fl t s) (by omega) cs hc
    have hin := eq_in cs (t := .un u t) (by omega)
    rw [P_step (d := (td_law_flow 0).fd) rfl rfl, lf_body]
    cases u <;> (simp only [Tm.d, U.w] at hG hin ⊢; simp only [td_law_flow, evSs, evS, evE, evT, evEs, evAnd, evOr, evTA, evTO, evG, evGs, evO, evC, evL, evI, cmpD, opD, augD, idxD, slcD, mtOk, biD, truD, seqOf, lstOf, srcL, List.map_cons, List.map_nil, List.cons_append, List.nil_append, List.getElem?_cons_zero, List.getElem?_cons_succ, List.getElem?_nil, List.set_cons_zero, List.set_cons_succ, List.length_cons, List.length_nil, List.replicate_succ, List.replicate_zero, Nat.reduceSub, Nat.reduceAdd, Bool.false_eq_true, if_false, if_true, le0, le1, le2, le3, le4, le5, Int.reduceAdd, Int.reduceMul, Bool.not_true, Bool.not_false, hin, Tm.isIn, eqB_ss, w_in_not, w_in_late, w_in_twice, w_in_half, w_in_change, w_in_count, w_in_by, w_in_keep, w_in_then, w_not_in, w_not_late, w_not_twice, w_not_half, w_not_change, w_not_count, w_not_by, w_not_keep, w_not_then, w_late_in, w_late_not, w_late_twice, w_late_half, w_late_change, w_late_count, w_late_by, w_late_keep, w_late_then, w_twice_in, w_twice_not, w_twice_late, w_twice_half, w_twice_change, w_twice_count, w_twice_by, w_twice_keep, w_twice_then, w_half_in, w_half_not, w_half_late, w_half_twice, w_half_change, w_half_count, w_half_by, w_half_keep, w_half_then, w_change_in, w_change_not, w_change_late, w_change_twice, w_change_half, w_change_count, w_change_by, w_change_keep, w_change_then, w_count_in, w_count_not, w_count_late, w_count_twice, w_count_half, w_count_change, w_count_by, w_count_keep, w_count_then, w_by_in, w_by_not, w_by_late, w_by_twice, w_by_half, w_by_change, w_by_count, w_by_keep, w_by_then, w_keep_in, w_keep_not, w_keep_late, w_keep_twice, w_keep_half, w_keep_change, w_keep_count, w_keep_by, w_keep_then, w_then_in, w_then_not, w_then_late, w_then_twice, w_then_half, w_then_change, w_then_count, w_then_by, w_then_keep, inB_w, Bool.or_false, Int.reduceNeg, am2, ih, hG, fl, atI_0]; exact fin_same (fr_str _) hc)
  | .late c t, s, N, hN, h60, hs, cs, hc => by
    have hp := t.sz_pos
    obtain ⟨n, rfl⟩ : ∃ n, N = n + 3 := ⟨N - 3, by simp only [Tm.sz] at hN; omega⟩
    have hst := sub_le (a := t.sz) hs (by simp only [Tm.sz]; omega)
    have hft := fl_8000 hst
    have ih := c_lflow t s (n + 2) (by simp only [Tm.sz] at hN; omega) (by simp only [Tm.sz] at h60; omega) hst cs hc
    have hG := c_single_late (n + 1) c t (fl t s) (by omega) cs hc
    have hin := eq_in cs (t := .late c t) (by omega)
    rw [P_step (d := (td_law_flow 0).fd) rfl rfl, lf_body]
    simp only [Tm.d] at hG hin ⊢
    simp only [td_law_flow, evSs, evS, evE, evT, evEs, evAnd, evOr, evTA, evTO, evG, evGs, evO, evC, evL, evI, cmpD, opD, augD, idxD, slcD, mtOk, biD, truD, seqOf, lstOf, srcL, List.map_cons, List.map_nil, List.cons_append, List.nil_append, List.getElem?_cons_zero, List.getElem?_cons_succ, List.getElem?_nil, List.set_cons_zero, List.set_cons_succ, List.length_cons, List.length_nil, List.replicate_succ, List.replicate_zero, Nat.reduceSub, Nat.reduceAdd, Bool.false_eq_true, if_false, if_true, le0, le1, le2, le3, le4, le5, Int.reduceAdd, Int.reduceMul, Bool.not_true, Bool.not_false, hin, Tm.isIn, eqB_ss, w_in_not, w_in_late, w_in_twice, w_in_half, w_in_change, w_in_count, w_in_by, w_in_keep, w_in_then, w_not_in, w_not_late, w_not_twice, w_not_half, w_not_change, w_not_count, w_not_by, w_not_keep, w_not_then, w_late_in, w_late_not, w_late_twice, w_late_half, w_late_change, w_late_count, w_late_by, w_late_keep, w_late_then, w_twice_in, w_twice_not, w_twice_late, w_twice_half, w_twice_change, w_twice_count, w_twice_by, w_twice_keep, w_twice_then, w_half_in, w_half_not, w_half_late, w_half_twice, w_half_change, w_half_count, w_half_by, w_half_keep, w_half_then, w_change_in, w_change_not, w_change_late, w_change_twice, w_change_half, w_change_count, w_change_by, w_change_keep, w_change_then, w_count_in, w_count_not, w_count_late, w_count_twice, w_count_half, w_count_change, w_count_by, w_count_keep, w_count_then, w_by_in, w_by_not, w_by_late, w_by_twice, w_by_half, w_by_change, w_by_count, w_by_keep, w_by_then, w_keep_in, w_keep_not, w_keep_late, w_keep_twice, w_keep_half, w_keep_change, w_keep_count, w_keep_by, w_keep_then, w_then_in, w_then_not, w_then_late, w_then_twice, w_then_half, w_then_change, w_then_count, w_then_by, w_then_keep, inB_w, Bool.or_false, Int.reduceNeg, am3, ih, hG, fl, atI_0]
    exact fin_same (fr_str _) hc
  | .bt a b c d t u, s, N, hN, h60, hs, cs, hc => by
    have hp := t.sz_pos
    have hp2 := u.sz_pos
    have h8 := cap8
    obtain ⟨n, rfl⟩ : ∃ n, N = n + 3 := ⟨N - 3, by simp only [Tm.sz] at hN; omega⟩
    have hst := sub_le (a := t.sz) hs (by simp only [Tm.sz]; omega)
    have hsu := sub_le (a := u.sz) hs (by simp only [Tm.sz]; omega)
    have hft := fl_8000 hst
    have ih := c_lflow t s (n + 2) (by simp only [Tm.sz] at hN; omega) (by simp only [Tm.sz] at h60; omega) hst cs hc
    have ih2 := c_lflow u s (n + 2) (by simp only [Tm.sz] at hN; omega) (by simp only [Tm.sz] at h60; omega) hsu cs hc
    have hin := eq_in cs (t := .bt a b c d t u) (by omega)
    have hm : min (fl t s).length (fl u s).length ≤ cap := by omega
    have hz : (List.zipWith (pk4 a b c d) (fl t s) (fl u s)).length ≤ cap := by rw [List.length_zipWith]; omega
    rw [P_step (d := (td_law_flow 0).fd) rfl rfl, lf_body]
    simp only [Tm.d] at hin ⊢
    simp only [td_law_flow, evSs, evS, evE, evT, evEs, evAnd, evOr, evTA, evTO, evG, evGs, evO, evC, evL, evI, cmpD, opD, augD, idxD, slcD, mtOk, biD, truD, seqOf, lstOf, srcL, List.map_cons, List.map_nil, List.cons_append, List.nil_append, List.getElem?_cons_zero, List.getElem?_cons_succ, List.getElem?_nil, List.set_cons_zero, List.set_cons_succ, List.length_cons, List.length_nil, List.replicate_succ, List.replicate_zero, Nat.reduceSub, Nat.reduceAdd, Bool.false_eq_true, if_false, if_true, le0, le1, le2, le3, le4, le5, Int.reduceAdd, Int.reduceMul, Bool.not_true, Bool.not_false, hin, Tm.isIn, eqB_ss, w_in_not, w_in_late, w_in_twice, w_in_half, w_in_change, w_in_count, w_in_by, w_in_keep, w_in_then, w_not_in, w_not_late, w_not_twice, w_not_half, w_not_change, w_not_count, w_not_by, w_not_keep, w_not_then, w_late_in, w_late_not, w_late_twice, w_late_half, w_late_change, w_late_count, w_late_by, w_late_keep, w_late_then, w_twice_in, w_twice_not, w_twice_late, w_twice_half, w_twice_change, w_twice_count, w_twice_by, w_twice_keep, w_twice_then, w_half_in, w_half_not, w_half_late, w_half_twice, w_half_change, w_half_count, w_half_by, w_half_keep, w_half_then, w_change_in, w_change_not, w_change_late, w_change_twice, w_change_half, w_change_count, w_change_by, w_change_keep, w_change_then, w_count_in, w_count_not, w_count_late, w_count_twice, w_count_half, w_count_change, w_count_by, w_count_keep, w_count_then, w_by_in, w_by_not, w_by_late, w_by_twice, w_by_half, w_by_change, w_by_count, w_by_keep, w_by_then, w_keep_in, w_keep_not, w_keep_late, w_keep_twice, w_keep_half, w_keep_change, w_keep_count, w_keep_by, w_keep_then, w_then_in, w_then_not, w_then_late, w_then_twice, w_then_half, w_then_change, w_then_count, w_then_by, w_then_keep, inB_w, beq_self_eq_true, Bool.true_or, Int.reduceNeg, am4, an4, ih, ih2, fl, atI_0, bs_size, if_pos hm, zip_pD, e_lby (n + 2) a b c d _ _ (fl t s) (fl u s) (by omega) cs, join_ok cs _ hz]
    exact fin_same (fr_str _) hc
  | .kp t u, s, N, hN, h60, hs, cs, hc => by
    have hp := t.sz_pos
    have hp2 := u.sz_pos
    have h8 := cap8
    obtain ⟨n, rfl⟩ : ∃ n, N = n + 3 := ⟨N - 3, by simp only [Tm.sz] at hN; omega⟩
    have hst := sub_le (a := t.sz) hs (by simp only [Tm.sz]; omega)
    have hsu := sub_le (a := u.sz) hs (by simp only [Tm.sz]; omega)
    have hft := fl_8000 hst
    have ih := c_lflow t s (n + 2) (by simp only [Tm.sz] at hN; omega) (by simp only [Tm.sz] at h60; omega) hst cs hc
    have ih2 := c_lflow u s (n + 2) (by simp only [Tm.sz] at hN; omega) (by simp only [Tm.sz] at h60; omega) hsu cs hc
    have hin := eq_in cs (t := .kp t u) (by omega)
    have hm : min (fl t s).length (fl u s).length ≤ cap := by omega
    have hz : (keepL (fl t s) (fl u s)).length ≤ cap := by have := keepL_len (fl t s) (fl u s); omega
    rw [P_step (d := (td_law_flow 0).fd) rfl rfl, lf_body]
    simp only [Tm.d] at hin ⊢
    simp only [td_law_flow, evSs, evS, evE, evT, evEs, evAnd, evOr, evTA, evTO, evG, evGs, evO, evC, evL, evI, cmpD, opD, augD, idxD, slcD, mtOk, biD, truD, seqOf, lstOf, srcL, List.map_cons, List.map_nil, List.cons_append, List.nil_append, List.getElem?_cons_zero, List.getElem?_cons_succ, List.getElem?_nil, List.set_cons_zero, List.set_cons_succ, List.length_cons, List.length_nil, List.replicate_succ, List.replicate_zero, Nat.reduceSub, Nat.reduceAdd, Bool.false_eq_true, if_false, if_true, le0, le1, le2, le3, le4, le5, Int.reduceAdd, Int.reduceMul, Bool.not_true, Bool.not_false, hin, Tm.isIn, eqB_ss, w_in_not, w_in_late, w_in_twice, w_in_half, w_in_change, w_in_count, w_in_by, w_in_keep, w_in_then, w_not_in, w_not_late, w_not_twice, w_not_half, w_not_change, w_not_count, w_not_by, w_not_keep, w_not_then, w_late_in, w_late_not, w_late_twice, w_late_half, w_late_change, w_late_count, w_late_by, w_late_keep, w_late_then, w_twice_in, w_twice_not, w_twice_late, w_twice_half, w_twice_change, w_twice_count, w_twice_by, w_twice_keep, w_twice_then, w_half_in, w_half_not, w_half_late, w_half_twice, w_half_change, w_half_count, w_half_by, w_half_keep, w_half_then, w_change_in, w_change_not, w_change_late, w_change_twice, w_change_half, w_change_count, w_change_by, w_change_keep, w_change_then, w_count_in, w_count_not, w_count_late, w_count_twice, w_count_half, w_count_change, w_count_by, w_count_keep, w_count_then, w_by_in, w_by_not, w_by_late, w_by_twice, w_by_half, w_by_change, w_by_count, w_by_keep, w_by_then, w_keep_in, w_keep_not, w_keep_late, w_keep_twice, w_keep_half, w_keep_change, w_keep_count, w_keep_by, w_keep_then, w_then_in, w_then_not, w_then_late, w_then_twice, w_then_half, w_then_change, w_then_count, w_then_by, w_then_keep, inB_w, beq_self_eq_true, Bool.true_or, Bool.or_true, Bool.false_or, Int.reduceNeg, am3, an3, ih, ih2, fl, atI_0, bs_size, if_pos hm, zip_pD, e_lkeep (n + 2) (fl t s) (fl u s) (by omega) cs, join_ok cs _ hz]
    exact fin_same (fr_str _) hc
  | .th t u, s, N, hN, h60, hs, cs, hc => by
    have hp := t.sz_pos
    have hp2 := u.sz_pos
    obtain ⟨n, rfl⟩ : ∃ n, N = n + 3 := ⟨N - 3, by simp only [Tm.sz] at hN; omega⟩
    have hst := sub_le (a := t.sz) hs (by simp only [Tm.sz]; omega)
    have hsu : (fl t s).length * 2 ^ (u.sz - 1) ≤ 8000 := by
      refine Nat.le_trans (Nat.mul_le_mul_right _ (fl_len t s)) (Nat.le_trans ?_ hs)
      rw [Nat.mul_assoc, ← Nat.pow_add]
      exact Nat.mul_le_mul_left _ (Nat.pow_le_pow_right (by omega) (by simp only [Tm.sz]; omega))
    have ih := c_lflow t s (n + 2) (by simp only [Tm.sz] at hN; omega) (by simp only [Tm.sz] at h60; omega) hst cs hc
    have ih2 := c_lflow u (fl t s) (n + 2) (by simp only [Tm.sz] at hN; omega) (by simp only [Tm.sz] at h60; omega) hsu cs hc
    have hin := eq_in cs (t := .th t u) (by omega)
    rw [P_step (d := (td_law_flow 0).fd) rfl rfl, lf_body]
    simp only [Tm.d] at hin ⊢
    simp only [td_law_flow, evSs, evS, evE, evT, evEs, evAnd, evOr, evTA, evTO, evG, evGs, evO, evC, evL, evI, cmpD, opD, augD, idxD, slcD, mtOk, biD, truD, seqOf, lstOf, srcL, List.map_cons, List.map_nil, List.cons_append, List.nil_append, List.getElem?_cons_zero, List.getElem?_cons_succ, List.getElem?_nil, List.set_cons_zero, List.set_cons_succ, List.length_cons, List.length_nil, List.replicate_succ, List.replicate_zero, Nat.reduceSub, Nat.reduceAdd, Bool.false_eq_true, if_false, if_true, le0, le1, le2, le3, le4, le5, Int.reduceAdd, Int.reduceMul, Bool.not_true, Bool.not_false, hin, Tm.isIn, eqB_ss, beq_self_eq_true, atI_0, atI_1, atI_2, ih, ih2, fl]
    exact fin_same (fr_str _) hc
end Mc
set_option Elab.async false
set_option linter.all false
set_option maxRecDepth 100000
set_option maxHeartbeats 2000000
namespace Mc
open PySem PySem.Spec PyProof.Rows L2
/-! ### the pot -/
def Pt (p m : Nat) (cs : Cells) : Prop := Fz cs ∧ cs.length = m ∧ p < m ∧ ∃ a b : Int, cs[p]? = some (.lst [.int a, .int b])
theorem pfin {p m n : Nat} {cs : Cells} {v : D} (h : Pt p m cs) (hn : n = m) (hv : Fr0 v) : fin false n v cs = some (v, cs) := fin_n (by rw [hn, h.2.1]) hv h.1
theorem rsvC_set (g : Nat → Option D) : ∀ (cs : Cells) (p : Nat) (xs : List D), rsvL g xs = some xs → rsvC g cs = some cs → rsvC g (cs.set p (.lst xs)) = some (cs.set p (.lst xs))
  | [], p, xs, hx, h => rfl
  | .lst ys :: r, 0, xs, hx, h => by
    simp only [rsvC] at h
    rw [List.set_cons_zero]; simp only [rsvC]
    cases e1 : rsvL g ys with
    | none => rw [e1] at h; cases h
    | some zs => cases e2 : rsvC g r with
      | none => rw [e1, e2] at h; cases h
      | some ws =>
        rw [e1, e2] at h; simp only [Option.some.injEq, List.cons.injEq] at h
        rw [hx, h.2]
  | .dct ks ys :: r, 0, xs, hx, h => by
    simp only [rsvC] at h
    rw [List.set_cons_zero]; simp only [rsvC]
    cases e1 : rsvL g ys with
    | none => rw [e1] at h; cases h
    | some zs => cases e2 : rsvC g r with
      | none => rw [e1, e2] at h; cases h
      | some ws =>
        rw [e1, e2] at h; simp only [Option.some.injEq, List.cons.injEq] at h
        rw [hx, h.2]
  | .ins k ks ys :: r, 0, xs, hx, h => by
    simp only [rsvC] at h
    rw [List.set_cons_zero]; simp only [rsvC]
    cases e1 : rsvL g ys with
    | none => rw [e1] at h; cases h
    | some zs => cases e2 : rsvC g r with
      | none => rw [e1, e2] at h; cases h
      | some ws =>
        rw [e1, e2] at h; simp only [Option.some.injEq, List.cons.injEq] at h
        rw [hx, h.2]
  | .lst ys :: r, p + 1, xs, hx, h => by
    simp only [rsvC] at h
    rw [List.set_cons_succ]; simp only [rsvC]
    cases e1 : rsvL g ys with
    | none => rw [e1] at h; cases h
    | some zs => cases e2 : rsvC g r with
      | none => rw [e1, e2] at h; cases h
      | some ws =>
        rw [e1, e2] at h; simp only [Option.some.injEq, List.cons.injEq, Cell.lst.injEq] at h
        obtain ⟨rfl, rfl⟩ := h
        rw [rsvC_set g _ p xs hx e2]
  | .dct ks ys :: r, p + 1, xs, hx, h => by
    simp only [rsvC] at h
    rw [List.set_cons_succ]; simp only [rsvC]
    cases e1 : rsvL g ys with
    | none => rw [e1] at h; cases h
    | some zs => cases e2 : rsvC g r with
      | none => rw [e1, e2] at h; cases h
      | some ws =>
        rw [e1, e2] at h; simp only [Option.some.injEq, List.cons.injEq, Cell.dct.injEq, true_and] at h
        obtain ⟨rfl, rfl⟩ := h
        rw [rsvC_set g _ p xs hx e2]
  | .ins k ks ys :: r, p + 1, xs, hx, h => by
    simp only [rsvC] at h
    rw [List.set_cons_succ]; simp only [rsvC]
    cases e1 : rsvL g ys with
    | none => rw [e1] at h; cases h
    | some zs => cases e2 : rsvC g r with
      | none => rw [e1, e2] at h; cases h
      | some ws =>
        rw [e1, e2] at h; simp only [Option.some.injEq, List.cons.injEq, Cell.ins.injEq, true_and] at h
        obtain ⟨rfl, rfl⟩ := h
        rw [rsvC_set g _ p xs hx e2]
theorem fz_set {cs : Cells} {p : Nat} {xs : List D} (h : Fz cs) (hx : FrL xs) : Fz (cs.set p (.lst xs)) := fun g => rsvC_set g cs p xs (hx g) (h g)
theorem pt_set {p m : Nat} {cs : Cells} (h : Pt p m cs) (a b : Int) : Pt p m (cs.set p (.lst [.int a, .int b])) :=
  ⟨fz_set h.1 (frl_cons (fr_int _) (frl_cons (fr_int _) frl_nil)), by rw [List.length_set, h.2.1], h.2.2.1, a, b, by rw [List.getElem?_set_self (by rw [h.2.1]; exact h.2.2.1)]⟩
theorem ix20 : ixN 2 0 = some 0 := rfl
theorem ix21 : ixN 2 1 = some 1 := rfl
theorem c_draw {p m : Nat} (n : Nat) (k : Int) (hk : 0 < k ∧ k < 1073741824) (cs : Cells) (h : Pt p m cs) : ∃ (r : Int) (cs' : Cells), P (n + 1) 16 [.ref p, .int k] cs = some (.int r, cs') ∧ 0 ≤ r ∧ r < k ∧ Pt p m cs' := by
  obtain ⟨hz, hm, hp, a, b, e⟩ := h
  have h0 : Pt p m cs := ⟨hz, hm, hp, a, b, e⟩
  have hk0 : k ≠ 0 := by omega
  by_cases ha : 0 < a
  · refine ⟨a % k, cs.set p (.lst [.int (a / k), .int b]), ?_, Int.emod_nonneg _ hk0, Int.emod_lt_of_pos _ hk.1, pt_set h0 _ _⟩
    rw [P_step (d := (td_law_draw 0).fd) rfl rfl]
    simp only [td_law_draw, evSs, evS, evE, evT, evEs, evAnd, evOr, evTA, evTO, evG, evGs, evO, evC, evL, evI, cmpD, opD, augD, idxD, slcD, mtD, mtOk, biD, truD, seqOf, lstOf, srcL, List.map_cons, List.map_nil, List.cons_append, List.nil_append, List.getElem?_cons_zero, List.getElem?_cons_succ, List.getElem?_nil, List.set_cons_zero, List.set_cons_succ, List.length_cons, List.length_nil, List.replicate_succ, List.replicate_zero, Nat.reduceSub, Nat.reduceAdd, Bool.false_eq_true, if_false, if_true, le0, le1, le2, le3, le4, le5, Int.reduceAdd, Int.reduceMul, Bool.not_true, Bool.not_false, e, atI_0, decide_eq_true ha, if_pos hk, ix20]
    exact pfin (pt_set h0 _ _) hm (fr_int _)
  · have ee : (cs.set p (.lst [.int a, .int ((b * 48271 + 22847).fmod 2147483543)]))[p]? = some (.lst [.int a, .int ((b * 48271 + 22847).fmod 2147483543)]) := by rw [List.getElem?_set_self (by omega)]
    have b1 : 0 ≤ (b * 48271 + 22847).fmod 2147483543 := by rw [Int.fmod_eq_emod_of_nonneg _ (by omega)]; exact Int.emod_nonneg _ (by omega)
    have b2 : (b * 48271 + 22847).fmod 2147483543 < 2147483543 := by rw [Int.fmod_eq_emod_of_nonneg _ (by omega)]; exact Int.emod_lt_of_pos _ (by omega)
    have hc1 : ((-(2 ^ 64) : Int) < b ∧ b < 2 ^ 64) ∨ (-(2 ^ 64) : Int) < 48271 ∧ (48271 : Int) < 2 ^ 64 := .inr ⟨by decide, by decide⟩
    have hc2 : (2147483543 : Int) ≠ 0 := by decide
    have hc4 : (2147483563 : Int) ≠ 0 := by decide
    have hc5 : (19 : Int) ≠ 0 ∧ (19 : Int).natAbs < 1073741824 := ⟨by decide, by decide⟩
    have hq : ((-(2 ^ 64) : Int) < (b * 48271 + 22847).fmod 2147483543 ∧ (b * 48271 + 22847).fmod 2147483543 < 2 ^ 64) ∨ (-(2 ^ 64) : Int) < (b * 48271 + 22847).fmod 2147483543 ∧ (b * 48271 + 22847).fmod 2147483543 < 2 ^ 64 := .inl ⟨by omega, by omega⟩
    refine ⟨((((b * 48271 + 22847).fmod 2147483543 * (b * 48271 + 22847).fmod 2147483543).fmod 2147483563).fdiv 19).fmod k, cs.set p (.lst [.int a, .int ((b * 48271 + 22847).fmod 2147483543)]), ?_, ?_, ?_, pt_set h0 _ _⟩
    · rw [P_step (d := (td_law_draw 0).fd) rfl rfl]
      simp only [td_law_draw, evSs, evS, evE, evT, evEs, evAnd, evOr, evTA, evTO, evG, evGs, evO, evC, evL, evI, cmpD, opD, augD, idxD, slcD, mtD, mtOk, biD, truD, seqOf, lstOf, srcL, List.map_cons, List.map_nil, List.cons_append, List.nil_append, List.getElem?_cons_zero, List.getElem?_cons_succ, List.getElem?_nil, List.set_cons_zero, List.set_cons_succ, List.length_cons, List.length_nil, List.replicate_succ, List.replicate_zero, Nat.reduceSub, Nat.reduceAdd, Bool.false_eq_true, if_false, if_true, le0, le1, le2, le3, le4, le5, Int.reduceAdd, Int.reduceMul, Bool.not_true, Bool.not_false, e, atI_0, atI_1, decide_eq_false ha, if_pos hc1, if_pos hc2, ix21, ee, if_pos hq, if_pos hc4, if_pos hc5, if_pos hk0]
      exact pfin (pt_set h0 _ _) hm (fr_int _)
    · rw [Int.fmod_eq_emod_of_nonneg _ (by omega)]; exact Int.emod_nonneg _ hk0
    · rw [Int.fmod_eq_emod_of_nonneg _ (by omega)]; exact Int.emod_lt_of_pos _ hk.1
theorem atI_in {α : Type} {xs : List α} {r : Int} (h0 : 0 ≤ r) (h1 : r < xs.length) : ∃ x, x ∈ xs ∧ atI xs r = some x := by
  have h2 : r.toNat < xs.length := by omega
  refine ⟨xs[r.toNat], List.getElem_mem h2, ?_⟩
  unfold atI ixN
  rw [if_pos h0, if_pos h1]
  simp [h2]
theorem c_pick {p m : Nat} (n : Nat) (xs : List D) (hx : xs ≠ []) (hl : xs.length < 1073741824) (hf : ∀ d ∈ xs, Fr0 d) (cs : Cells) (h : Pt p m cs) : ∃ (x : D) (cs' : Cells), P (n + 2) 17 [.ref p, .lst xs] cs = some (x, cs') ∧ x ∈ xs ∧ Pt p m cs' := by
  have h1 : 0 < xs.length := by cases xs with
    | nil => exact absurd rfl hx
    | cons a r => simp
  obtain ⟨r, cs', e1, r0, r1, h'⟩ := c_draw n (xs.length : Int) ⟨by omega, by omega⟩ cs h
  obtain ⟨x, hm, e2⟩ := atI_in r0 r1
  refine ⟨x, cs', ?_, hm, h'⟩
  rw [P_step (d := (td_law_pick 0).fd) rfl rfl]
  simp only [td_law_pick, evSs, evS, evE, evT, evEs, evAnd, evOr, evTA, evTO, evG, evGs, evO, evC, evL, evI, cmpD, opD, augD, idxD, slcD, mtD, mtOk, biD, truD, seqOf, lstOf, srcL, List.map_cons, List.map_nil, List.cons_append, List.nil_append, List.getElem?_cons_zero, List.getElem?_cons_succ, List.getElem?_nil, List.set_cons_zero, List.set_cons_succ, List.length_cons, List.length_nil, List.replicate_succ, List.replicate_zero, Nat.reduceSub, Nat.reduceAdd, Bool.false_eq_true, if_false, if_true, le0, le1, le2, le3, le4, le5, Int.reduceAdd, Int.reduceMul, Bool.not_true, Bool.not_false, Option.map_some, e1, e2]
  exact pfin h' h.2.1 (hf x hm)
theorem c_bit {p m : Nat} (n : Nat) (cs : Cells) (h : Pt p m cs) : ∃ (b : Bool) (cs' : Cells), P (n + 2) 17 [.ref p, .lst [.str "0", .str "1"]] cs = some (.str (sg b), cs') ∧ Pt p m cs' := by
  obtain ⟨x, cs', e, hx, h'⟩ := c_pick n [.str "0", .str "1"] (by simp) (by simp) (fun d hd => by
    simp only [List.mem_cons, List.not_mem_nil, or_false] at hd
    rcases hd with rfl | rfl <;> exact fr_str _) cs h
  simp only [List.mem_cons, List.not_mem_nil, or_false] at hx
  rcases hx with rfl | rfl
  · exact ⟨false, cs', by rw [e, s0], h'⟩
  · exact ⟨true, cs', by rw [e, s1], h'⟩
end Mc
set_option Elab.async false
set_option linter.all false
set_option maxRecDepth 100000
set_option maxHeartbeats 2000000
namespace Mc
open PySem PySem.Spec PyProof.Rows L2
/-! ### draws that are strung together -/
theorem comp_bits {p m : Nat} {f : D → Cells → Option (Option D × Cells)} (ds : List D) (hl : ds.length ≤ cap) (hf : ∀ d cs, Pt p m cs → ∃ (b : Bool) (cs1 : Cells), f d cs = some (some (sD b), cs1) ∧ Pt p m cs1) (cs : Cells) (h : Pt p m cs) :
    ∃ (l : List Bool) (cs' : Cells), compGo (.fz ds) f (ds.length + 1) 0 [] cs = some (l.map sD, cs') ∧ l.length = ds.length ∧ Pt p m cs' := by
  obtain ⟨acc, cs', e, ⟨l, rfl, hl2⟩, h'⟩ := comp_inv (src := .fz ds) (f := f) (ds := ds) (fun i acc cs => (∃ l : List Bool, acc = l.map sD ∧ l.length = i) ∧ Pt p m cs) (fun i acc cs _ => rfl)
    (fun i d acc cs _ hI => by
      obtain ⟨⟨l, rfl, hl2⟩, h⟩ := hI
      obtain ⟨b, cs1, e, h1⟩ := hf d cs h
      exact ⟨sD b, cs1, e, ⟨l ++ [b], by rw [List.map_append]; rfl, by rw [List.length_append, hl2]; rfl⟩, h1⟩) hl (ds.length + 1) 0 [] cs (by omega) (Nat.zero_le _) (Nat.zero_le _) ⟨⟨[], rfl, rfl⟩, h⟩
  exact ⟨l, cs', e, hl2, h'⟩
theorem rng_len (n : Nat) : (rngD 0 n).length = n := by simp [rngD]
def ltC : L := (.comp [("_law_turn", 9)] (.nm 9) (.rng1 (.cst (.int 4))) .no (.call 17 (.cons (.var 0) (.cons (.new false (.disp (.cons (.cst (.str "0")) (.cons (.cst (.str "1")) .nil)))) .nil))))
theorem lt_body : (td_law_term 0).fd.body = (.cons (.asg (.nm 2) (.call 16 (.cons (.var 0) (.cons (.cst (.int 12)) .nil)))) (.cons (.ifs (.or (.cons (.cmp .Lt (.var 1) (.cst (.int 2))) (.cons (.cmp .Eq (.var 2) (.cst (.int 0))) .nil))) (.cons (.ret (.cst (.str "in"))) .nil) .nil) (.cons (.ifs (.or (.cons (.cmp .Lt (.var 2) (.cst (.int 7))) (.cons (.cmp .Lt (.var 1) (.cst (.int 3))) .nil))) (.cons (.asg (.nm 4) (.call 17 (.cons (.var 0) (.cons (.new false (.disp (.cons (.cst (.str "not")) (.cons (.cst (.str "twice")) (.cons (.cst (.str "half")) (.cons (.cst (.str "change")) (.cons (.cst (.str "count")) (.cons (.cst (.str "late")) .nil)))))))) .nil)))) (.cons (.asg (.nm 5) (.call 18 (.cons (.var 0) (.cons (.op .Sub (.var 1) (.cst (.int 1))) .nil)))) (.cons (.ret (.ite (.cmp .Eq (.var 4) (.cst (.str "late"))) (.tup (.cons (.cst (.str "late")) (.cons (.call 17 (.cons (.var 0) (.cons (.new false (.disp (.cons (.cst (.str "0")) (.cons (.cst (.str "1")) .nil)))) .nil))) (.cons (.var 5) .nil)))) (.tup (.cons (.var 4) (.cons (.var 5) .nil))))) .nil))) .nil) (.cons (.asg (.nm 3) (.op .Add (.cst (.int 1)) (.call 16 (.cons (.var 0) (.cons (.op .Sub (.var 1) (.cst (.int 2))) .nil))))) (.cons (.par [6, 7] (.cons (.call 18 (.cons (.var 0) (.cons (.var 3) .nil))) (.cons (.call 18 (.cons (.var 0) (.cons (.op .Sub (.op .Sub (.var 1) (.cst (.int 1))) (.var 3)) .nil))) .nil))) (.cons (.asg (.nm 4) (.call 17 (.cons (.var 0) (.cons (.new false (.disp (.cons (.cst (.str "by")) (.cons (.cst (.str "by")) (.cons (.cst (.str "keep")) (.cons (.cst (.str "then")) .nil)))))) .nil)))) (.cons (.ifs (.cmp .Eq (.var 4) (.cst (.str "by"))) (.cons (.asg (.nm 8) (.mt .join (.cst (.str "")) (.cons (.new false ltC) .nil))) (.cons (.ret (.tup (.cons (.cst (.str "by")) (.cons (.call 17 (.cons (.var 0) (.cons (.new false (.disp (.cons (.cst (.str "0110")) (.cons (.cst (.str "0001")) (.cons (.cst (.str "0111")) (.cons (.var 8) .nil)))))) .nil))) (.cons (.var 6) (.cons (.var 7) .nil)))))) .nil)) .nil) (.cons (.ret (.tup (.cons (.var 4) (.cons (.var 6) (.cons (.var 7) .nil))))) .nil)))))))) := rfl
theorem wp9 (a b c d e f g h i j : Option D) : wipeE [a, b, c, d, e, f, g, h, i, j] [9] = [a, b, c, d, e, f, g, h, i, none] := rfl
theorem tg9 : tgtIn [9] (.nm 9) = true := rfl
theorem r4 : ((-(2 ^ 62) : Int) ≤ 4 ∧ (4 : Int) < 2 ^ 62) := ⟨by decide, by decide⟩
theorem e_turns {p m : Nat} (n : Nat) (cs : Cells) (h : Pt p m cs) (b c d e f g i j k : Option D) : ∃ (l : List Bool) (cs' : Cells), evL (P (n + 2)) ltC [some (.ref p), b, c, d, e, f, g, i, j, k] cs = some (l.map sD, cs') ∧ l.length = 4 ∧ Pt p m cs' := by
  obtain ⟨l, cs', e1, e2, e3⟩ := comp_bits (p := p) (m := m) (f := fun x cs2 => match P (n + 2) 17 [.ref p, .lst [.str "0", .str "1"]] cs2 with | some (y, cs5) => some (some y, cs5) | none => none) (rngD 0 4) (by rw [rng_len]; decide) (fun x cs h => by
    obtain ⟨b, cs1, e, h1⟩ := c_bit n cs h
    exact ⟨b, cs1, by rw [e]; rfl, h1⟩) cs h
  refine ⟨l, cs', ?_, by rw [e2, rng_len], e3⟩
  rw [← e1]
  simp only [ltC, evSs, evS, evE, evT, evEs, evAnd, evOr, evTA, evTO, evG, evGs, evO, evC, evL, evI, cmpD, opD, augD, idxD, slcD, mtD, mtOk, biD, truD, seqOf, lstOf, srcL, List.map_cons, List.map_nil, List.cons_append, List.nil_append, List.getElem?_cons_zero, List.getElem?_cons_succ, List.getElem?_nil, List.set_cons_zero, List.set_cons_succ, List.length_cons, List.length_nil, List.replicate_succ, List.replicate_zero, Nat.reduceSub, Nat.reduceAdd, Bool.false_eq_true, if_false, if_true, le0, le1, le2, le3, le4, le5, Int.reduceAdd, Int.reduceMul, Bool.not_true, Bool.not_false, wp9, tg9, if_pos r4, Src.fuel, show (4 : Int).toNat = 4 from rfl]
  all_goals rfl
theorem le6 : (6 ≤ cap) = True := eq_true (by decide)
/-! ### a term that is drawn -/
theorem l4 {l : List Bool} (h : l.length = 4) : ∃ a b c d, l = [a, b, c, d] := by
  match l, h with
  | [a, b, c, d], _ => exact ⟨a, b, c, d, rfl⟩
theorem t0110 : Str.ofString "0110" = bs [false, true, true, false] := by decide +kernel
theorem t0001 : Str.ofString "0001" = bs [false, false, false, true] := by decide +kernel
theorem t0111 : Str.ofString "0111" = bs [false, true, true, true] := by decide +kernel

theorem c_term {p m : Nat} : ∀ (k : Nat) (mo : Int) (N : Nat), mo ≤ k + 1 → k + 4 ≤ N → k ≤ 1000 → ∀ cs, Pt p m cs → ∃ (t : Tm) (cs' : Cells), P N 18 [.ref p, .int mo] cs = some (t.d, cs') ∧ (t.sz : Int) ≤ max 1 mo ∧ Pt p m cs' := by
  intro k
  induction k with
  | zero =>
    intro mo N hmo hN hk cs h
    obtain ⟨n, rfl⟩ : ∃ n, N = n + 2 := ⟨N - 2, by omega⟩
    obtain ⟨r, cs1, e1, r0, r1, h1⟩ := c_draw n 12 ⟨by decide, by decide⟩ cs h
    refine ⟨.inn, cs1, ?_, by simp only [Tm.sz]; omega, h1⟩
    rw [P_step (d := (td_law_term 0).fd) rfl rfl, lt_body]
    have hd : decide (mo < 2) = true := decide_eq_true (by omega)
    simp only [td_law_term, evSs, evS, evE, evT, evEs, evAnd, evOr, evTA, evTO, evG, evGs, evO, evC, evL, evI, cmpD, opD, augD, idxD, slcD, mtOk, biD, truD, seqOf, lstOf, srcL, List.map_cons, List.map_nil, List.cons_append, List.nil_append, List.getElem?_cons_zero, List.getElem?_cons_succ, List.getElem?_nil, List.set_cons_zero, List.set_cons_succ, List.length_cons, List.length_nil, List.replicate_succ, List.replicate_zero, Nat.reduceSub, Nat.reduceAdd, Bool.false_eq_true, if_false, if_true, le0, le1, le2, le3, le4, le5, Int.reduceAdd, Int.reduceMul, Bool.not_true, Bool.not_false, e1, hd, Tm.d]
    exact pfin h1 h.2.1 (fr_str _)
  | succ k ih =>
    intro mo N hmo hN hk cs h
    obtain ⟨n, rfl⟩ : ∃ n, N = n + 5 := ⟨N - 5, by omega⟩
    obtain ⟨r, cs1, e1, r0, r1, h1⟩ := c_draw (n + 3) 12 ⟨by decide, by decide⟩ cs h
    by_cases hA : mo < 2 ∨ r = 0
    · refine ⟨.inn, cs1, ?_, by simp only [Tm.sz]; omega, h1⟩
      rw [P_step (d := (td_law_term 0).fd) rfl rfl, lt_body]
      by_cases h2 : mo < 2
      · simp only [td_law_term, evSs, evS, evE, evT, evEs, evAnd, evOr, evTA, evTO, evG, evGs, evO, evC, evL, evI, cmpD, opD, augD, idxD, slcD, mtOk, biD, truD, seqOf, lstOf, srcL, List.map_cons, List.map_nil, List.cons_append, List.nil_append, List.getElem?_cons_zero, List.getElem?_cons_succ, List.getElem?_nil, List.set_cons_zero, List.set_cons_succ, List.length_cons, List.length_nil, List.replicate_succ, List.replicate_zero, Nat.reduceSub, Nat.reduceAdd, Bool.false_eq_true, if_false, if_true, le0, le1, le2, le3, le4, le5, Int.reduceAdd, Int.reduceMul, Bool.not_true, Bool.not_false, e1, decide_eq_true h2, Tm.d]
        exact pfin h1 h.2.1 (fr_str _)
      · have hr : (r == 0) = true := by rw [beq_iff_eq]; omega
        simp only [td_law_term, evSs, evS, evE, evT, evEs, evAnd, evOr, evTA, evTO, evG, evGs, evO, evC, evL, evI, cmpD, opD, augD, idxD, slcD, mtOk, biD, truD, seqOf, lstOf, srcL, List.map_cons, List.map_nil, List.cons_append, List.nil_append, List.getElem?_cons_zero, List.getElem?_cons_succ, List.getElem?_nil, List.set_cons_zero, List.set_cons_succ, List.length_cons, List.length_nil, List.replicate_succ, List.replicate_zero, Nat.reduceSub, Nat.reduceAdd, Bool.false_eq_true, if_false, if_true, le0, le1, le2, le3, le4, le5, Int.reduceAdd, Int.reduceMul, Bool.not_true, Bool.not_false, e1, decide_eq_false h2, eqB_ii, hr, Tm.d]
        exact pfin h1 h.2.1 (fr_str _)
    · have h2 : ¬ mo < 2 := by omega
      have hr : (r == 0) = false := by rw [beq_eq_false_iff_ne]; omega
      by_cases hB : r < 7 ∨ mo < 3
      · obtain ⟨w, cs2, e2, hw, h3⟩ := c_pick (n + 2) [.str "not", .str "twice", .str "half", .str "change", .str "count", .str "late"] (by simp) (by simp) (fun d hd => by
          simp only [List.mem_cons, List.not_mem_nil, or_false] at hd
          rcases hd with rfl | rfl | rfl | rfl | rfl | rfl <;> exact fr_str _) cs1 h1
        obtain ⟨t, cs3, e3, hs, h4⟩ := ih (mo - 1) (n + 4) (by omega) (by omega) (by omega) cs2 h3
        obtain ⟨b, cs4, e4, h5⟩ := c_bit (n + 2) cs3 h4
        have hB' : (decide (r < 7) = true) ∨ (decide (r < 7) = false ∧ decide (mo < 3) = true) := by
          by_cases q : r < 7
          · exact .inl (decide_eq_true q)
          · exact .inr ⟨decide_eq_false q, decide_eq_true (by omega)⟩
        have key : ∃ (t' : Tm) (cs' : Cells), evSs (P (n + 4)) 1000 (.cons (.asg (.nm 4) (.call 17 (.cons (.var 0) (.cons (.new false (.disp (.cons (.cst (.str "not")) (.cons (.cst (.str "twice")) (.cons (.cst (.str "half")) (.cons (.cst (.str "change")) (.cons (.cst (.str "count")) (.cons (.cst (.str "late")) .nil)))))))) .nil)))) (.cons (.asg (.nm 5) (.call 18 (.cons (.var 0) (.cons (.op .Sub (.var 1) (.cst (.int 1))) .nil)))) (.cons (.ret (.ite (.cmp .Eq (.var 4) (.cst (.str "late"))) (.tup (.cons (.cst (.str "late")) (.cons (.call 17 (.cons (.var 0) (.cons (.new false (.disp (.cons (.cst (.str "0")) (.cons (.cst (.str "1")) .nil)))) .nil))) (.cons (.var 5) .nil)))) (.tup (.cons (.var 4) (.cons (.var 5) .nil))))) .nil))) [some (.ref p), some (.int mo), some (.int r), none, none, none, none, none, none, none] cs1 = some (.rt t'.d cs') ∧ (t'.sz : Int) ≤ max 1 mo ∧ Pt p m cs' := by
          simp only [List.mem_cons, List.not_mem_nil, or_false] at hw
          rcases hw with rfl | rfl | rfl | rfl | rfl | rfl
          · exact ⟨.un .nt t, cs3, by simp only [evSs, evS, evE, evT, evEs, evAnd, evOr, evTA, evTO, evG, evGs, evO, evC, evL, evI, cmpD, opD, augD, idxD, slcD, mtOk, biD, truD, seqOf, lstOf, srcL, List.map_cons, List.map_nil, List.cons_append, List.nil_append, List.getElem?_cons_zero, List.getElem?_cons_succ, List.getElem?_nil, List.set_cons_zero, List.set_cons_succ, List.length_cons, List.length_nil, List.replicate_succ, List.replicate_zero, Nat.reduceSub, Nat.reduceAdd, Bool.false_eq_true, if_false, if_true, le0, le1, le2, le3, le4, le5, Int.reduceAdd, Int.reduceMul, Bool.not_true, Bool.not_false, le6, e2, e3, eqB_ss, w_in_not, w_in_late, w_in_twice, w_in_half, w_in_change, w_in_count, w_in_by, w_in_keep, w_in_then, w_not_in, w_not_late, w_not_twice, w_not_half, w_not_change, w_not_count, w_not_by, w_not_keep, w_not_then, w_late_in, w_late_not, w_late_twice, w_late_half, w_late_change, w_late_count, w_late_by, w_late_keep, w_late_then, w_twice_in, w_twice_not, w_twice_late, w_twice_half, w_twice_change, w_twice_count, w_twice_by, w_twice_keep, w_twice_then, w_half_in, w_half_not, w_half_late, w_half_twice, w_half_change, w_half_count, w_half_by, w_half_keep, w_half_then, w_change_in, w_change_not, w_change_late, w_change_twice, w_change_half, w_change_count, w_change_by, w_change_keep, w_change_then, w_count_in, w_count_not, w_count_late, w_count_twice, w_count_half, w_count_change, w_count_by, w_count_keep, w_count_then, w_by_in, w_by_not, w_by_late, w_by_twice, w_by_half, w_by_change, w_by_count, w_by_keep, w_by_then, w_keep_in, w_keep_not, w_keep_late, w_keep_twice, w_keep_half, w_keep_change, w_keep_count, w_keep_by, w_keep_then, w_then_in, w_then_not, w_then_late, w_then_twice, w_then_half, w_then_change, w_then_count, w_then_by, w_then_keep]; rfl, by simp only [Tm.sz]; omega, h4⟩
          · exact ⟨.un .tw t, cs3, by simp only [evSs, evS, evE, evT, evEs, evAnd, evOr, evTA, evTO, evG, evGs, evO, evC, evL, evI, cmpD, opD, augD, idxD, slcD, mtOk, biD, truD, seqOf, lstOf, srcL, List.map_cons, List.map_nil, List.cons_append, List.nil_append, List.getElem?_cons_zero, List.getElem?_cons_succ, List.getElem?_nil, List.set_cons_zero, List.set_cons_succ, List.length_cons, List.length_nil, List.replicate_succ, List.replicate_zero, Nat.reduceSub, Nat.reduceAdd, Bool.false_eq_true, if_false, if_true, le0, le1, le2, le3, le4, le5, Int.reduceAdd, Int.reduceMul, Bool.not_true, Bool.not_false, le6, e2, e3, eqB_ss, w_in_not, w_in_late, w_in_twice, w_in_half, w_in_change, w_in_count, w_in_by, w_in_keep, w_in_then, w_not_in, w_not_late, w_not_twice, w_not_half, w_not_change, w_not_count, w_not_by, w_not_keep, w_not_then, w_late_in, w_late_not, w_late_twice, w_late_half, w_late_change, w_late_count, w_late_by, w_late_keep, w_late_then, w_twice_in, w_twice_not, w_twice_late, w_twice_half, w_twice_change, w_twice_count, w_twice_by, w_twice_keep, w_twice_then, w_half_in, w_half_not, w_half_late, w_half_twice, w_half_change, w_half_count, w_half_by, w_half_keep, w_half_then, w_change_in, w_change_not, w_change_late, w_change_twice, w_change_half, w_change_count, w_change_by, w_change_keep, w_change_then, w_count_in, w_count_not, w_count_late, w_count_twice, w_count_half, w_count_change, w_count_by, w_count_keep, w_count_then, w_by_in, w_by_not, w_by_late, w_by_twice, w_by_half, w_by_change, w_by_count, w_by_keep, w_by_then, w_keep_in, w_keep_not, w_keep_late, w_keep_twice, w_keep_half, w_keep_change, w_keep_count, w_keep_by, w_keep_then, w_then_in, w_then_not, w_then_late, w_then_twice, w_then_half, w_then_change, w_then_count, w_then_by, w_then_keep]; rfl, by simp only [Tm.sz]; omega, h4⟩
          · exact ⟨.un .hf t, cs3, by simp only [evSs, evS, evE, evT, evEs, evAnd, evOr, evTA, evTO, evG, evGs, evO, evC, evL, evI, cmpD, opD, augD, idxD, slcD, mtOk, biD, truD, seqOf, lstOf, srcL, List.map_cons, List.map_nil, List.cons_append, List.nil_append, List.getElem?_cons_zero, List.getElem?_cons_succ, List.getElem?_nil, List.set_cons_zero, List.set_cons_succ, List.length_cons, List.length_nil, List.replicate_succ, List.replicate_zero, Nat.reduceSub, Nat.reduceAdd, Bool.false_eq_true, if_false, if_true, le0, le1, le2, le3, le4, le5, Int.reduceAdd, Int.reduceMul, Bool.not_true, Bool.not_false, le6, e2, e3, eqB_ss, w_in_not, w_in_late, w_in_twice, w_in_half, w_in_change, w_in_count, w_in_by, w_in_keep, w_in_then, w_not_in, w_not_late, w_not_twice, w_not_half, w_not_change, w_not_count, w_not_by, w_not_keep, w_not_then, w_late_in, w_late_not, w_late_twice, w_late_half, w_late_change, w_late_count, w_late_by, w_late_keep, w_late_then, w_twice_in, w_twice_not, w_twice_late, w_twice_half, w_twice_change, w_twice_count, w_twice_by, w_twice_keep, w_twice_then, w_half_in, w_half_not, w_half_late, w_half_twice, w_half_change, w_half_count, w_half_by, w_half_keep, w_half_then, w_change_in, w_change_not, w_change_late, w_change_twice, w_change_half, w_change_count, w_change_by, w_change_keep, w_change_then, w_count_in, w_count_not, w_count_late, w_count_twice, w_count_half, w_count_change, w_count_by, w_count_keep, w_count_then, w_by_in, w_by_not, w_by_late, w_by_twice, w_by_half, w_by_change, w_by_count, w_by_keep, w_by_then, w_keep_in, w_keep_not, w_keep_late, w_keep_twice, w_keep_half, w_keep_change, w_keep_count, w_keep_by, w_keep_then, w_then_in, w_then_not, w_then_late, w_then_twice, w_then_half, w_then_change, w_then_count, w_then_by, w_then_keep]; rfl, by simp only [Tm.sz]; omega, h4⟩
          · exact ⟨.un .ch t, cs3, by simp only [evSs, evS, evE, evT, evEs, evAnd, evOr, evTA, evTO, evG, evGs, evO, evC, evL, evI, cmpD, opD, augD, idxD, slcD, mtOk, biD, truD, seqOf, lstOf, srcL, List.map_cons, List.map_nil, List.cons_append, List.nil_append, List.getElem?_cons_zero, List.getElem?_cons_succ, List.getElem?_nil, List.set_cons_zero, List.set_cons_succ, List.length_cons, List.length_nil, List.replicate_succ, List.replicate_zero, Nat.reduceSub, Nat.reduceAdd, Bool.false_eq_true, if_false, if_true, le0, le1, le2, le3, le4, le5, Int.reduceAdd, Int.reduceMul, Bool.not_true, Bool.not_false, le6, e2, e3, eqB_ss, w_in_not, w_in_late, w_in_twice, w_in_half, w_in_change, w_in_count, w_in_by, w_in_keep, w_in_then, w_not_in, w_not_late, w_not_twice, w_not_half, w_not_change, w_not_count, w_not_by, w_not_keep, w_not_then, w_late_in, w_late_not, w_late_twice, w_late_half, w_late_change, w_late_count, w_late_by, w_late_keep, w_late_then, w_twice_in, w_twice_not, w_twice_late, w_twice_half, w_twice_change, w_twice_count, w_twice_by, w_twice_keep, w_twice_then, w_half_in, w_half_not, w_half_late, w_half_twice, w_half_change, w_half_count, w_half_by, w_half_keep, w_half_then, w_change_in, w_change_not, w_change_late, w_change_twice, w_change_half, w_change_count, w_change_by, w_change_keep, w_change_then, w_count_in, w_count_not, w_count_late, w_count_twice, w_count_half, w_count_change, w_count_by, w_count_keep, w_count_then, w_by_in, w_by_not, w_by_late, w_by_twice, w_by_half, w_by_change, w_by_count, w_by_keep, w_by_then, w_keep_in, w_keep_not, w_keep_late, w_keep_twice, w_keep_half, w_keep_change, w_keep_count, w_keep_by, w_keep_then, w_then_in, w_then_not, w_then_late, w_then_twice, w_then_half, w_then_change, w_then_count, w_then_by, w_then_keep]; rfl, by simp only [Tm.sz]; omega, h4⟩
          · exact ⟨.un .ct t, cs3, by simp only [evSs, evS, evE, evT, evEs, evAnd, evOr, evTA, evTO, evG, evGs, evO, evC, evL, evI, cmpD, opD, augD, idxD, slcD, mtOk, biD, truD, seqOf, lstOf, srcL, List.map_cons, List.map_nil, List.cons_append, List.nil_append, List.getElem?_cons_zero, List.getElem?_cons_succ, List.getElem?_nil, List.set_cons_zero, List.set_cons_succ, List.length_cons, List.length_nil, List.replicate_succ, List.replicate_zero, Nat.reduceSub, Nat.reduceAdd, Bool.false_eq_true, if_false, if_true, le0, le1, le2, le3, le4, le5, Int.reduceAdd, Int.reduceMul, Bool.not_true, Bool.not_false, le6, e2, e3, eqB_ss, w_in_not, w_in_late, w_in_twice, w_in_half, w_in_change, w_in_count, w_in_by, w_in_keep, w_in_then, w_not_in, w_not_late, w_not_twice, w_not_half, w_not_change, w_not_count, w_not_by, w_not_keep, w_not_then, w_late_in, w_late_not, w_late_twice, w_late_half, w_late_change, w_late_count, w_late_by, w_late_keep, w_late_then, w_twice_in, w_twice_not, w_twice_late, w_twice_half, w_twice_change, w_twice_count, w_twice_by, w_twice_keep, w_twice_then, w_half_in, w_half_not, w_half_late, w_half_twice, w_half_change, w_half_count, w_half_by, w_half_keep, w_half_then, w_change_in, w_change_not, w_change_late, w_change_twice, w_change_half, w_change_count, w_change_by, w_change_keep, w_change_then, w_count_in, w_count_not, w_count_late, w_count_twice, w_count_half, w_count_change, w_count_by, w_count_keep, w_count_then, w_by_in, w_by_not, w_by_late, w_by_twice, w_by_half, w_by_change, w_by_count, w_by_keep, w_by_then, w_keep_in, w_keep_not, w_keep_late, w_keep_twice, w_keep_half, w_keep_change, w_keep_count, w_keep_by, w_keep_then, w_then_in, w_then_not, w_then_late, w_then_twice, w_then_half, w_then_change, w_then_count, w_then_by, w_then_keep]; rfl, by simp only [Tm.sz]; omega, h4⟩
          · exact ⟨.late b t, cs4, by simp only [evSs, evS, evE, evT, evEs, evAnd, evOr, evTA, evTO, evG, evGs, evO, evC, evL, evI, cmpD, opD, augD, idxD, slcD, mtOk, biD, truD, seqOf, lstOf, srcL, List.map_cons, List.map_nil, List.cons_append, List.nil_append, List.getElem?_cons_zero, List.getElem?_cons_succ, List.getElem?_nil, List.set_cons_zero, List.set_cons_succ, List.length_cons, List.length_nil, List.replicate_succ, List.replicate_zero, Nat.reduceSub, Nat.reduceAdd, Bool.false_eq_true, if_false, if_true, le0, le1, le2, le3, le4, le5, Int.reduceAdd, Int.reduceMul, Bool.not_true, Bool.not_false, le6, e2, e3, e4, eqB_ss, beq_self_eq_true]; rfl, by simp only [Tm.sz]; omega, h5⟩
        obtain ⟨t', cs', e5, hs', h6⟩ := key
        refine ⟨t', cs', ?_, hs', h6⟩
        rw [P_step (d := (td_law_term 0).fd) rfl rfl, lt_body]
        rcases hB' with q | ⟨q, q2⟩
        · simp only [td_law_term, evSs, evS, evE, evT, evEs, evAnd, evOr, evTA, evTO, evG, evGs, evO, evC, evL, evI, cmpD, opD, augD, idxD, slcD, mtOk, biD, truD, seqOf, lstOf, srcL, List.map_cons, List.map_nil, List.cons_append, List.nil_append, List.getElem?_cons_zero, List.getElem?_cons_succ, List.getElem?_nil, List.set_cons_zero, List.set_cons_succ, List.length_cons, List.length_nil, List.replicate_succ, List.replicate_zero, Nat.reduceSub, Nat.reduceAdd, Bool.false_eq_true, if_false, if_true, le0, le1, le2, le3, le4, le5, Int.reduceAdd, Int.reduceMul, Bool.not_true, Bool.not_false, e1, decide_eq_false h2, eqB_ii, hr, q] at e5 ⊢
          rw [e5]
          exact pfin h6 h.2.1 (fr_tm _)
        · simp only [td_law_term, evSs, evS, evE, evT, evEs, evAnd, evOr, evTA, evTO, evG, evGs, evO, evC, evL, evI, cmpD, opD, augD, idxD, slcD, mtOk, biD, truD, seqOf, lstOf, srcL, List.map_cons, List.map_nil, List.cons_append, List.nil_append, List.getElem?_cons_zero, List.getElem?_cons_succ, List.getElem?_nil, List.set_cons_zero, List.set_cons_succ, List.length_cons, List.length_nil, List.replicate_succ, List.replicate_zero, Nat.reduceSub, Nat.reduceAdd, Bool.false_eq_true, if_false, if_true, le0, le1, le2, le3, le4, le5, Int.reduceAdd, Int.reduceMul, Bool.not_true, Bool.not_false, e1, decide_eq_false h2, eqB_ii, hr, q, q2] at e5 ⊢
          rw [e5]
          exact pfin h6 h.2.1 (fr_tm _)
      · obtain ⟨q, cs2, e2, q0, q1, h3⟩ := c_draw (n + 3) (mo - 2) ⟨by omega, by omega⟩ cs1 h1
        obtain ⟨t1, cs3, e3, hs1, h4⟩ := ih (1 + q) (n + 4) (by omega) (by omega) (by omega) cs2 h3
        obtain ⟨t2, cs4, e4, hs2, h5⟩ := ih (mo - 1 - (1 + q)) (n + 4) (by omega) (by omega) (by omega) cs3 h4
        obtain ⟨w, cs5, e5, hw, h6⟩ := c_pick (n + 2) [.str "by", .str "by", .str "keep", .str "then"] (by simp) (by simp) (fun d hd => by
          simp only [List.mem_cons, List.not_mem_nil, or_false] at hd
          rcases hd with rfl | rfl | rfl | rfl <;> exact fr_str _) cs4 h5
        have qa : decide (r < 7) = false := decide_eq_false (by omega)
        have qb : decide (mo < 3) = false := decide_eq_false (by omega)
        simp only [List.mem_cons, List.not_mem_nil, or_false] at hw
        have hw' : w = .str "by" ∨ w = .str "keep" ∨ w = .str "then" := by
          rcases hw with q | q | q | q
          · exact .inl q
          · exact .inl q
          · exact .inr (.inl q)
          · exact .inr (.inr q)
        rcases hw' with rfl | rfl | rfl
        · obtain ⟨l, cs6, e6, hl, h7⟩ := e_turns (n + 2) cs5 h6 (some (.int mo)) (some (.int r)) (some (.int (1 + q))) (some (.str "by")) none (some t1.d) (some t2.d) none none
          obtain ⟨a, b, c, d, rfl⟩ := l4 hl
          obtain ⟨w, cs7, e7, hw, h8⟩ := c_pick (n + 2) [.str "0110", .str "0001", .str "0111", .str (bs [a, b, c, d])] (by simp) (by simp) (fun d hd => by
            simp only [List.mem_cons, List.not_mem_nil, or_false] at hd
            rcases hd with rfl | rfl | rfl | rfl <;> exact fr_str _) cs6 h7
          have hj := join_ok cs6 [a, b, c, d] (show 4 ≤ cap by decide)
          simp only [List.map_cons, List.map_nil] at hj
          have hw2 : ∃ a' b' c' d', w = .str (bs [a', b', c', d']) := by
            simp only [List.mem_cons, List.not_mem_nil, or_false] at hw
            rcases hw with rfl | rfl | rfl | rfl
            · exact ⟨_, _, _, _, by rw [t0110]⟩
            · exact ⟨_, _, _, _, by rw [t0001]⟩
            · exact ⟨_, _, _, _, by rw [t0111]⟩
            · exact ⟨_, _, _, _, rfl⟩
          obtain ⟨a', b', c', d', rfl⟩ := hw2
          refine ⟨.bt a' b' c' d' t1 t2, cs7, ?_, by simp only [Tm.sz]; omega, h8⟩
          rw [P_step (d := (td_law_term 0).fd) rfl rfl, lt_body]
          simp only [td_law_term, evSs, evS, evE, evT, evEs, evAnd, evOr, evTA, evTO, evG, evGs, evO, evC, evL, evI, cmpD, opD, augD, idxD, slcD, mtOk, biD, truD, seqOf, lstOf, srcL, List.map_cons, List.map_nil, List.cons_append, List.nil_append, List.getElem?_cons_zero, List.getElem?_cons_succ, List.getElem?_nil, List.set_cons_zero, List.set_cons_succ, List.length_cons, List.length_nil, List.replicate_succ, List.replicate_zero, Nat.reduceSub, Nat.reduceAdd, Bool.false_eq_true, if_false, if_true, le0, le1, le2, le3, le4, le5, Int.reduceAdd, Int.reduceMul, Bool.not_true, Bool.not_false, e1, decide_eq_false h2, eqB_ii, hr, qa, qb, e2, e3, e4, e5, e6, e7, hj, eqB_ss, beq_self_eq_true, List.zip_cons_cons, List.zip_nil_left, List.foldl_cons, List.foldl_nil]
          exact pfin h8 h.2.1 (fr_tm (.bt _ _ _ _ _ _))
        · refine ⟨.kp t1 t2, cs5, ?_, by simp only [Tm.sz]; omega, h6⟩
          rw [P_step (d := (td_law_term 0).fd) rfl rfl, lt_body]
          simp only [td_law_term, evSs, evS, evE, evT, evEs, evAnd, evOr, evTA, evTO, evG, evGs, evO, evC, evL, evI, cmpD, opD, augD, idxD, slcD, mtOk, biD, truD, seqOf, lstOf, srcL, List.map_cons, List.map_nil, List.cons_append, List.nil_append, List.getElem?_cons_zero, List.getElem?_cons_succ, List.getElem?_nil, List.set_cons_zero, List.set_cons_succ, List.length_cons, List.length_nil, List.replicate_succ, List.replicate_zero, Nat.reduceSub, Nat.reduceAdd, Bool.false_eq_true, if_false, if_true, le0, le1, le2, le3, le4, le5, Int.reduceAdd, Int.reduceMul, Bool.not_true, Bool.not_false, e1, decide_eq_false h2, eqB_ii, hr, qa, qb, e2, e3, e4, e5, eqB_ss, w_in_not, w_in_late, w_in_twice, w_in_half, w_in_change, w_in_count, w_in_by, w_in_keep, w_in_then, w_not_in, w_not_late, w_not_twice, w_not_half, w_not_change, w_not_count, w_not_by, w_not_keep, w_not_then, w_late_in, w_late_not, w_late_twice, w_late_half, w_late_change, w_late_count, w_late_by, w_late_keep, w_late_then, w_twice_in, w_twice_not, w_twice_late, w_twice_half, w_twice_change, w_twice_count, w_twice_by, w_twice_keep, w_twice_then, w_half_in, w_half_not, w_half_late, w_half_twice, w_half_change, w_half_count, w_half_by, w_half_keep, w_half_then, w_change_in, w_change_not, w_change_late, w_change_twice, w_change_half, w_change_count, w_change_by, w_change_keep, w_change_then, w_count_in, w_count_not, w_count_late, w_count_twice, w_count_half, w_count_change, w_count_by, w_count_keep, w_count_then, w_by_in, w_by_not, w_by_late, w_by_twice, w_by_half, w_by_change, w_by_count, w_by_keep, w_by_then, w_keep_in, w_keep_not, w_keep_late, w_keep_twice, w_keep_half, w_keep_change, w_keep_count, w_keep_by, w_keep_then, w_then_in, w_then_not, w_then_late, w_then_twice, w_then_half, w_then_change, w_then_count, w_then_by, w_then_keep, List.zip_cons_cons, List.zip_nil_left, List.foldl_cons, List.foldl_nil]
          exact pfin h6 h.2.1 (fr_tm (.kp _ _))
        · refine ⟨.th t1 t2, cs5, ?_, by simp only [Tm.sz]; omega, h6⟩
          rw [P_step (d := (td_law_term 0).fd) rfl rfl, lt_body]
          simp only [td_law_term, evSs, evS, evE, evT, evEs, evAnd, evOr, evTA, evTO, evG, evGs, evO, evC, evL, evI, cmpD, opD, augD, idxD, slcD, mtOk, biD, truD, seqOf, lstOf, srcL, List.map_cons, List.map_nil, List.cons_append, List.nil_append, List.getElem?_cons_zero, List.getElem?_cons_succ, List.getElem?_nil, List.set_cons_zero, List.set_cons_succ, List.length_cons, List.length_nil, List.replicate_succ, List.replicate_zero, Nat.reduceSub, Nat.reduceAdd, Bool.false_eq_true, if_false, if_true, le0, le1, le2, le3, le4, le5, Int.reduceAdd, Int.reduceMul, Bool.not_true, Bool.not_false, e1, decide_eq_false h2, eqB_ii, hr, qa, qb, e2, e3, e4, e5, eqB_ss, w_in_not, w_in_late, w_in_twice, w_in_half, w_in_change, w_in_count, w_in_by, w_in_keep, w_in_then, w_not_in, w_not_late, w_not_twice, w_not_half, w_not_change, w_not_count, w_not_by, w_not_keep, w_not_then, w_late_in, w_late_not, w_late_twice, w_late_half, w_late_change, w_late_count, w_late_by, w_late_keep, w_late_then, w_twice_in, w_twice_not, w_twice_late, w_twice_half, w_twice_change, w_twice_count, w_twice_by, w_twice_keep, w_twice_then, w_half_in, w_half_not, w_half_late, w_half_twice, w_half_change, w_half_count, w_half_by, w_half_keep, w_half_then, w_change_in, w_change_not, w_change_late, w_change_twice, w_change_half, w_change_count, w_change_by, w_change_keep, w_change_then, w_count_in, w_count_not, w_count_late, w_count_twice, w_count_half, w_count_change, w_count_by, w_count_keep, w_count_then, w_by_in, w_by_not, w_by_late, w_by_twice, w_by_half, w_by_change, w_by_count, w_by_keep, w_by_then, w_keep_in, w_keep_not, w_keep_late, w_keep_twice, w_keep_half, w_keep_change, w_keep_count, w_keep_by, w_keep_then, w_then_in, w_then_not, w_then_late, w_then_twice, w_then_half, w_then_change, w_then_count, w_then_by, w_then_keep, List.zip_cons_cons, List.zip_nil_left, List.foldl_cons, List.foldl_nil]
          exact pfin h6 h.2.1 (fr_tm (.th _ _))
/-! ### a stream that is drawn -/
def lsmC : L := (.comp [("_law_turn", 2)] (.nm 2) (.rng1 (.call 16 (.cons (.var 0) (.cons (.op .Add (.var 1) (.cst (.int 1))) .nil)))) .no (.call 17 (.cons (.var 0) (.cons (.new false (.disp (.cons (.cst (.str "0")) (.cons (.cst (.str "1")) .nil)))) .nil))))
theorem lsm_body : (td_law_stream 0).fd.body = (.cons (.ret (.mt .join (.cst (.str "")) (.cons (.new false lsmC) .nil))) .nil) := rfl
theorem wp2c (a b c : Option D) : wipeE [a, b, c] [2] = [a, b, none] := rfl
theorem e_signs {p m : Nat} (n : Nat) (k : Int) (hk : 0 ≤ k ∧ k < 100000) (cs : Cells) (h : Pt p m cs) (c : Option D) : ∃ (l : List Bool) (cs' : Cells), evL (P (n + 2)) lsmC [some (.ref p), some (.int k), c] cs = some (l.map sD, cs') ∧ (l.length : Int) ≤ k ∧ Pt p m cs' := by
  have h8 := cap8
  obtain ⟨r, cs1, e1, r0, r1, h1⟩ := c_draw (n + 1) (k + 1) ⟨by omega, by omega⟩ cs h
  obtain ⟨l, cs', e2, e3, e4⟩ := comp_bits (p := p) (m := m) (f := fun x cs2 => match P (n + 2) 17 [.ref p, .lst [.str "0", .str "1"]] cs2 with | some (y, cs5) => some (some y, cs5) | none => none) (rngD 0 r.toNat) (by rw [rng_len]; omega) (fun x cs h => by
    obtain ⟨b, cs1, e, h1⟩ := c_bit n cs h
    exact ⟨b, cs1, by rw [e]; rfl, h1⟩) cs1 h1
  refine ⟨l, cs', ?_, by rw [e3, rng_len]; omega, e4⟩
  rw [← e2]
  have hr : ((-(2 ^ 62) : Int) ≤ r ∧ r < 2 ^ 62) := ⟨by omega, by omega⟩
  simp only [lsmC, evSs, evS, evE, evT, evEs, evAnd, evOr, evTA, evTO, evG, evGs, evO, evC, evL, evI, cmpD, opD, augD, idxD, slcD, mtD, mtOk, biD, truD, seqOf, lstOf, srcL, List.map_cons, List.map_nil, List.cons_append, List.nil_append, List.getElem?_cons_zero, List.getElem?_cons_succ, List.getElem?_nil, List.set_cons_zero, List.set_cons_succ, List.length_cons, List.length_nil, List.replicate_succ, List.replicate_zero, Nat.reduceSub, Nat.reduceAdd, Bool.false_eq_true, if_false, if_true, le0, le1, le2, le3, le4, le5, Int.reduceAdd, Int.reduceMul, Bool.not_true, Bool.not_false, e1, wp2c, tg2, if_pos hr, Src.fuel]
  all_goals rfl
theorem c_str {p m : Nat} (n : Nat) (k : Int) (hk : 0 ≤ k ∧ k < 100000) (cs : Cells) (h : Pt p m cs) : ∃ (l : List Bool) (cs' : Cells), P (n + 3) 21 [.ref p, .int k] cs = some (.str (bs l), cs') ∧ (l.length : Int) ≤ k ∧ Pt p m cs' := by
  have h8 := cap8
  obtain ⟨l, cs', e, hl, h'⟩ := e_signs n k hk cs h none
  refine ⟨l, cs', ?_, hl, h'⟩
  have hj := join_ok cs' l (by omega)
  rw [P_step (d := (td_law_stream 0).fd) rfl rfl, lsm_body]
  simp only [td_law_stream, evSs, evS, evE, evT, evEs, evAnd, evOr, evTA, evTO, evG, evGs, evO, evC, evL, evI, cmpD, opD, augD, idxD, slcD, mtOk, biD, truD, seqOf, lstOf, srcL, List.map_cons, List.map_nil, List.cons_append, List.nil_append, List.getElem?_cons_zero, List.getElem?_cons_succ, List.getElem?_nil, List.set_cons_zero, List.set_cons_succ, List.length_cons, List.length_nil, List.replicate_succ, List.replicate_zero, Nat.reduceSub, Nat.reduceAdd, Bool.false_eq_true, if_false, if_true, le0, le1, le2, le3, le4, le5, Int.reduceAdd, Int.reduceMul, Bool.not_true, Bool.not_false, e, hj]
  exact pfin h' h.2.1 (fr_str _)
/-! ### nodes, counted -/
def gP : D → Option D
  | .str w => if (w == Str.ofString "in") = true then some (.str w) else none
  | d => some d
theorem gP_tm (t : Tm) : gP t.d = some t.d := by cases t <;> first | rfl | (simp only [Tm.d, gP, beq_self_eq_true, if_true])
theorem gP_bs (l : List Bool) : gP (.str (bs l)) = none ∧ (bs l == Str.ofString "in") = false := by
  have h : (bs l == Str.ofString "in") = false := by
    rw [beq_eq_false_iff_ne]
    intro c
    have c2 : bs l = ⟨#[105, 110]⟩ := c.trans (by decide +kernel)
    have c3 : (l.map cp).toArray = #[105, 110] := congrArg Str.cps c2
    have c4 : l.map cp = [105, 110] := by simpa using congrArg Array.toList c3
    cases l with
    | nil => cases c4
    | cons a r => rw [List.map_cons] at c4; injection c4 with c5 _; cases a <;> simp [cp] at c5
  exact ⟨by simp only [gP, h]; rfl, h⟩
def lnC0 : L := (.comp [("_law_part", 2)] (.nm 2) (.tup (.slc (.var 0) (.so (.cst (.int 1))) .no)) (.so (.or (.cons (.cmp .Eq (.var 2) (.cst (.str "in"))) (.cons (.bi .isi (.cons (.var 2) (.cons (.glo "tuple" (.ty "tuple")) .nil))) .nil)))) (.var 2))
def lnC1 : L := (.comp [("_law_part", 2)] (.nm 2) (.lst (.var 1)) .no (.call 22 (.cons (.var 2) .nil)))
theorem ln_body : (td_law_nodes 0).fd.body = (.cons (.ifs (.cmp .Eq (.var 0) (.cst (.str "in"))) (.cons (.ret (.cst (.int 1))) .nil) .nil) (.cons (.asgC 1 false lnC0) (.cons (.ret (.op .Add (.cst (.int 1)) (.bi .sum (.cons (.new false lnC1) .nil)))) .nil))) := rfl
theorem e_nparts (n : Nat) (w : D) (r : List D) (hr : ∀ d ∈ r, (∃ t : Tm, t.sz ≤ 60 ∧ d = t.d) ∨ ∃ l, d = .str (bs l)) (hl : r.length ≤ 10) (cs : Cells) (x y : Option D) : evL (P n) lnC0 [some (.tup (w :: r)), x, y] cs = some (r.filterMap gP, cs) := by
  have h8 := cap8
  have hI : evI (P n) (.tup (.slc (.var 0) (.so (.cst (.int 1))) .no)) [some (.tup (w :: r)), x, y] cs = some (.fz r, cs) := by
    simp only [evSs, evS, evE, evT, evEs, evAnd, evOr, evTA, evTO, evG, evGs, evO, evC, evL, evI, cmpD, opD, augD, idxD, slcD, mtD, mtOk, biD, truD, seqOf, lstOf, srcL, List.map_cons, List.map_nil, List.cons_append, List.nil_append, List.getElem?_cons_zero, List.getElem?_cons_succ, List.getElem?_nil, List.set_cons_zero, List.set_cons_succ, List.length_cons, List.length_nil, List.replicate_succ, List.replicate_zero, Nat.reduceSub, Nat.reduceAdd, Bool.false_eq_true, if_false, if_true, le0, le1, le2, le3, le4, le5, Int.reduceAdd, Int.reduceMul, Bool.not_true, Bool.not_false, cutD_1]
  unfold lnC0
  rw [evL, hI]
  dsimp only
  rw [comp0 gP r (fun i => rfl) (fun d hd => ?_) (by omega) (by show _ < r.length + 1; omega)]
  rcases hr d hd with ⟨t, ht, rfl⟩ | ⟨l, rfl⟩
  · have he := eq_in cs (t := t) (by omega)
    cases t <;> (simp only [Tm.d, gP, Tm.isIn] at he ⊢; simp only [evSs, evS, evE, evT, evEs, evAnd, evOr, evTA, evTO, evG, evGs, evO, evC, evL, evI, cmpD, opD, augD, idxD, slcD, mtD, mtOk, biD, truD, seqOf, lstOf, srcL, List.map_cons, List.map_nil, List.cons_append, List.nil_append, List.getElem?_cons_zero, List.getElem?_cons_succ, List.getElem?_nil, List.set_cons_zero, List.set_cons_succ, List.length_cons, List.length_nil, List.replicate_succ, List.replicate_zero, Nat.reduceSub, Nat.reduceAdd, Bool.false_eq_true, if_false, if_true, le0, le1, le2, le3, le4, le5, Int.reduceAdd, Int.reduceMul, Bool.not_true, Bool.not_false, wp2c, tg2, he, isi_tt, beq_self_eq_true])
  · simp only [evSs, evS, evE, evT, evEs, evAnd, evOr, evTA, evTO, evG, evGs, evO, evC, evL, evI, cmpD, opD, augD, idxD, slcD, mtD, mtOk, biD, truD, seqOf, lstOf, srcL, List.map_cons, List.map_nil, List.cons_append, List.nil_append, List.getElem?_cons_zero, List.getElem?_cons_succ, List.getElem?_nil, List.set_cons_zero, List.set_cons_succ, List.length_cons, List.length_nil, List.replicate_succ, List.replicate_zero, Nat.reduceSub, Nat.reduceAdd, Bool.false_eq_true, if_false, if_true, le0, le1, le2, le3, le4, le5, Int.reduceAdd, Int.reduceMul, Bool.not_true, Bool.not_false, wp2c, tg2, eqB_ss, (gP_bs l).2, (gP_bs l).1, isi_st]
theorem nparts_ps (t : Tm) : ∀ (w : D) (r : List D), t.d = .tup (w :: r) → r.filterMap gP = t.ps := by
  intro w r h
  cases t with
  | inn => cases h
  | un u t => simp only [Tm.d, D.tup.injEq, List.cons.injEq] at h; obtain ⟨_, rfl⟩ := h; simp [gP_tm, Tm.ps]
  | late c t => simp only [Tm.d, D.tup.injEq, List.cons.injEq] at h; obtain ⟨_, rfl⟩ := h; simp [gP_tm, Tm.ps, sg_bs, (gP_bs _).1]
  | bt a b c d t u => simp only [Tm.d, D.tup.injEq, List.cons.injEq] at h; obtain ⟨_, rfl⟩ := h; simp [gP_tm, Tm.ps, (gP_bs _).1]
  | kp t u => simp only [Tm.d, D.tup.injEq, List.cons.injEq] at h; obtain ⟨_, rfl⟩ := h; simp [gP_tm, Tm.ps]
  | th t u => simp only [Tm.d, D.tup.injEq, List.cons.injEq] at h; obtain ⟨_, rfl⟩ := h; simp [gP_tm, Tm.ps]
theorem tup_tm (t : Tm) (h : t.isIn = false) : ∃ (w : D) (r : List D), t.d = .tup (w :: r) ∧ r.length ≤ 3 ∧ ∀ d ∈ r, (∃ u : Tm, u.sz ≤ t.sz ∧ d = u.d) ∨ ∃ l, d = .str (bs l) := by
  cases t with
  | inn => cases h
  | un u t => exact ⟨_, _, rfl, by simp, fun d hd => by simp only [List.mem_singleton] at hd; subst hd; exact .inl ⟨t, by simp only [Tm.sz]; omega, rfl⟩⟩
  | late c t => exact ⟨_, _, rfl, by simp, fun d hd => by
      simp only [List.mem_cons, List.not_mem_nil, or_false] at hd
      rcases hd with rfl | rfl
      · exact .inr ⟨[c], rfl⟩
      · exact .inl ⟨t, by simp only [Tm.sz]; omega, rfl⟩⟩
  | bt a b c d t u => exact ⟨_, _, rfl, by simp, fun d hd => by
      simp only [List.mem_cons, List.not_mem_nil, or_false] at hd
      rcases hd with rfl | rfl | rfl
      · exact .inr ⟨_, rfl⟩
      · exact .inl ⟨t, by simp only [Tm.sz]; omega, rfl⟩
      · exact .inl ⟨u, by simp only [Tm.sz]; omega, rfl⟩⟩
  | kp t u => exact ⟨_, _, rfl, by simp, fun d hd => by
      simp only [List.mem_cons, List.not_mem_nil, or_false] at hd
      rcases hd with rfl | rfl
      · exact .inl ⟨t, by simp only [Tm.sz]; omega, rfl⟩
      · exact .inl ⟨u, by simp only [Tm.sz]; omega, rfl⟩⟩
  | th t u => exact ⟨_, _, rfl, by simp, fun d hd => by
      simp only [List.mem_cons, List.not_mem_nil, or_false] at hd
      rcases hd with rfl | rfl
      · exact .inl ⟨t, by simp only [Tm.sz]; omega, rfl⟩
      · exact .inl ⟨u, by simp only [Tm.sz]; omega, rfl⟩⟩
theorem ints_sz : ∀ ts : List Tm, intsOf (ts.filterMap fun t => some (D.int t.sz)) = some (ts.map fun t => (t.sz : Int))
  | [] => rfl
  | t :: r => by
    simp only [List.filterMap_cons, intsOf, ints_sz r, List.map_cons]
theorem sum_sz : ∀ ts : List Tm, (ts.map fun t => (t.sz : Int)).sum = (szs ts : Int)
  | [] => rfl
  | t :: r => by
    rw [List.map_cons, List.sum_cons, sum_sz r]
    simp [szs]
theorem e_nsum (n : Nat) (ts : List Tm) (hl : ts.length ≤ 10) (cs : Cells) (h : ∀ t ∈ ts, P n 22 [t.d] cs = some (.int t.sz, cs)) (x y : Option D) : evL (P n) lnC1 [x, some (.lst (ts.map Tm.d)), y] cs = some (ts.filterMap fun t => some (D.int t.sz), cs) := by
  have h8 := cap8
  have hI : evI (P n) (.lst (.var 1)) [x, some (.lst (ts.map Tm.d)), y] cs = some (.fz (ts.map Tm.d), cs) := by
    simp only [evSs, evS, evE, evT, evEs, evAnd, evOr, evTA, evTO, evG, evGs, evO, evC, evL, evI, cmpD, opD, augD, idxD, slcD, mtD, mtOk, biD, truD, seqOf, lstOf, srcL, List.map_cons, List.map_nil, List.cons_append, List.nil_append, List.getElem?_cons_zero, List.getElem?_cons_succ, List.getElem?_nil, List.set_cons_zero, List.set_cons_succ, List.length_cons, List.length_nil, List.replicate_succ, List.replicate_zero, Nat.reduceSub, Nat.reduceAdd, Bool.false_eq_true, if_false, if_true, le0, le1, le2, le3, le4, le5, Int.reduceAdd, Int.reduceMul, Bool.not_true, Bool.not_false]
  unfold lnC1
  rw [evL, hI]
  dsimp only
  rw [comp1 Tm.d (fun t => some (.int t.sz)) ts (fun i => rfl) (fun t ht => ?_) (by omega) (by show _ < (ts.map Tm.d).length + 1; rw [List.length_map]; omega)]
  simp only [evSs, evS, evE, evT, evEs, evAnd, evOr, evTA, evTO, evG, evGs, evO, evC, evL, evI, cmpD, opD, augD, idxD, slcD, mtD, mtOk, biD, truD, seqOf, lstOf, srcL, List.map_cons, List.map_nil, List.cons_append, List.nil_append, List.getElem?_cons_zero, List.getElem?_cons_succ, List.getElem?_nil, List.set_cons_zero, List.set_cons_succ, List.length_cons, List.length_nil, List.replicate_succ, List.replicate_zero, Nat.reduceSub, Nat.reduceAdd, Bool.false_eq_true, if_false, if_true, le0, le1, le2, le3, le4, le5, Int.reduceAdd, Int.reduceMul, Bool.not_true, Bool.not_false, wp2c, tg2, h t ht]
theorem c_nodes : ∀ (k : Nat) (t : Tm) (N : Nat), t.sz ≤ k → k + 1 ≤ N → t.sz ≤ 60 → ∀ cs, Fz cs → P N 22 [t.d] cs = some (.int t.sz, cs) := by
  intro k
  induction k with
  | zero => intro t N ht; have := t.sz_pos; omega
  | succ k ih =>
    intro t N ht hN h60 cs hc
    obtain ⟨n, rfl⟩ : ∃ n, N = n + 1 := ⟨N - 1, by omega⟩
    have he := eq_in cs (t := t) (by omega)
    cases hi : t.isIn with
    | true =>
      rw [hi] at he
      rw [P_step (d := (td_law_nodes 0).fd) rfl rfl, ln_body]
      simp only [td_law_nodes, evSs, evS, evE, evT, evEs, evAnd, evOr, evTA, evTO, evG, evGs, evO, evC, evL, evI, cmpD, opD, augD, idxD, slcD, mtOk, biD, truD, seqOf, lstOf, srcL, List.map_cons, List.map_nil, List.cons_append, List.nil_append, List.getElem?_cons_zero, List.getElem?_cons_succ, List.getElem?_nil, List.set_cons_zero, List.set_cons_succ, List.length_cons, List.length_nil, List.replicate_succ, List.replicate_zero, Nat.reduceSub, Nat.reduceAdd, Bool.false_eq_true, if_false, if_true, le0, le1, le2, le3, le4, le5, Int.reduceAdd, Int.reduceMul, Bool.not_true, Bool.not_false, he]
      cases t <;> first | cases hi | skip
      exact fin_same (fr_int _) hc
    | false =>
      obtain ⟨w, r, e1, hl, hr⟩ := tup_tm t hi
      have e2 := e_nparts n w r (fun d hd => by
        rcases hr d hd with ⟨u, hu, rfl⟩ | q
        · exact .inl ⟨u, by omega, rfl⟩
        · exact .inr q) (by omega) cs none none
      rw [nparts_ps t w r e1, pt_ps] at e2
      have e3 := e_nsum n t.pt (Nat.le_trans (pt_len t) (by omega)) cs (fun x hx => ih x n (by
        have := szs_pt t
        have h1 : x.sz ≤ szs t.pt := by
          clear e2
          cases t <;> simp [Tm.pt] at hx <;> (try rcases hx with rfl | rfl) <;> (try subst hx) <;> simp [szs, Tm.pt]
        omega) (by omega) (Nat.le_trans (pt_le hx) h60) cs hc) (some t.d) none
      have e4 := ints_sz t.pt
      have e5 : (1 : Int) + (szs t.pt : Int) = (t.sz : Int) := by rw [← szs_pt t]; push_cast; omega
      rw [hi] at he
      rw [P_step (d := (td_law_nodes 0).fd) rfl rfl, ln_body]
      rw [e1] at he e3 ⊢
      simp only [td_law_nodes, evSs, evS, evE, evT, evEs, evAnd, evOr, evTA, evTO, evG, evGs, evO, evC, evL, evI, cmpD, opD, augD, idxD, slcD, mtOk, biD, truD, seqOf, lstOf, srcL, List.map_cons, List.map_nil, List.cons_append, List.nil_append, List.getElem?_cons_zero, List.getElem?_cons_succ, List.getElem?_nil, List.set_cons_zero, List.set_cons_succ, List.length_cons, List.length_nil, List.replicate_succ, List.replicate_zero, Nat.reduceSub, Nat.reduceAdd, Bool.false_eq_true, if_false, if_true, le0, le1, le2, le3, le4, le5, Int.reduceAdd, Int.reduceMul, Bool.not_true, Bool.not_false, he, e2, e3, e4, sum_sz, e5]
      exact fin_same (fr_int _) hc
/-! ### a term around a term -/
theorem c_around {p m : Nat} (n : Nat) (t : Tm) (cs : Cells) (h : Pt p m cs) : ∃ (u : Tm) (cs' : Cells), P (n + 3) 23 [.ref p, t.d] cs = some (u.d, cs') ∧ u.sz ≤ t.sz + 3 ∧ Pt p m cs' := by
  obtain ⟨w, cs1, e1, hw, h1⟩ := c_pick n [.str "not", .str "twice", .str "half", .str "change", .str "count"] (by simp) (by simp) (fun d hd => by
    simp only [List.mem_cons, List.not_mem_nil, or_false] at hd
    rcases hd with rfl | rfl | rfl | rfl | rfl <;> exact fr_str _) cs h
  have hw' : ∃ v : U, w = .str v.w := by
    simp only [List.mem_cons, List.not_mem_nil, or_false] at hw
    rcases hw with rfl | rfl | rfl | rfl | rfl
    · exact ⟨.nt, rfl⟩
    · exact ⟨.tw, rfl⟩
    · exact ⟨.hf, rfl⟩
    · exact ⟨.ch, rfl⟩
    · exact ⟨.ct, rfl⟩
  obtain ⟨v, rfl⟩ := hw'
  obtain ⟨b, cs2, e2, h2⟩ := c_bit n cs1 h1
  obtain ⟨x, cs3, e3, hx, h3⟩ := c_pick n [.tup [.str v.w, t.d], .tup [.str "late", .str (sg b), t.d], .tup [.str "then", t.d, .tup [.str v.w, .str "in"]]] (by simp) (by simp) (fun d hd => by
    simp only [List.mem_cons, List.not_mem_nil, or_false] at hd
    rcases hd with rfl | rfl | rfl
    · exact fr_tm (.un v t)
    · exact fr_tm (.late b t)
    · exact fr_tm (.th t (.un v .inn))) cs2 h2
  have hx' : ∃ u : Tm, x = u.d ∧ u.sz ≤ t.sz + 3 := by
    simp only [List.mem_cons, List.not_mem_nil, or_false] at hx
    rcases hx with rfl | rfl | rfl
    · exact ⟨.un v t, rfl, by simp only [Tm.sz]; omega⟩
    · exact ⟨.late b t, rfl, by simp only [Tm.sz]; omega⟩
    · exact ⟨.th t (.un v .inn), rfl, by simp only [Tm.sz]; omega⟩
  obtain ⟨u, rfl, hu⟩ := hx'
  refine ⟨u, cs3, ?_, hu, h3⟩
  rw [P_step (d := (td_law_around 0).fd) rfl rfl]
  simp only [td_law_around, evSs, evS, evE, evT, evEs, evAnd, evOr, evTA, evTO, evG, evGs, evO, evC, evL, evI, cmpD, opD, augD, idxD, slcD, mtD, mtOk, biD, truD, seqOf, lstOf, srcL, List.map_cons, List.map_nil, List.cons_append, List.nil_append, List.getElem?_cons_zero, List.getElem?_cons_succ, List.getElem?_nil, List.set_cons_zero, List.set_cons_succ, List.length_cons, List.length_nil, List.replicate_succ, List.replicate_zero, Nat.reduceSub, Nat.reduceAdd, Bool.false_eq_true, if_false, if_true, le0, le1, le2, le3, le4, le5, Int.reduceAdd, Int.reduceMul, Bool.not_true, Bool.not_false, e1, e2, e3]
  exact pfin h3 h.2.1 (fr_tm _)
end Mc
set_option Elab.async false
set_option linter.all false
set_option maxRecDepth 100000
set_option maxHeartbeats 2000000
namespace Mc
open PySem PySem.Spec PyProof.Rows L2
/-! ### terms shown -/
theorem w_size (u : U) : u.w.cps.size ≤ 6 := by cases u <;> decide +kernel
theorem c_size : (Str.ofString "in").cps.size = 2 ∧ (Str.ofString "late").cps.size = 4 ∧ (Str.ofString "by").cps.size = 2 ∧ (Str.ofString "keep").cps.size = 4 ∧ (Str.ofString "then").cps.size = 4 := by decide +kernel
theorem wt_tm : ∀ t : Tm, t.py.weight ≤ 20 * t.sz
  | .inn => by have := c_size; simp only [Tm.py, PyData.weight, Tm.sz]; omega
  | .un u t => by have := wt_tm t; have := w_size u; simp only [Tm.py, PyData.weight, PyData.weightAll, Tm.sz]; omega
  | .late c t => by have := wt_tm t; have := c_size; have h : (sg c).cps.size = 1 := rfl; simp only [Tm.py, PyData.weight, PyData.weightAll, Tm.sz]; omega
  | .bt a b c d t u => by have := wt_tm t; have := wt_tm u; have := c_size; have h : (bs [a, b, c, d]).cps.size = 4 := rfl; simp only [Tm.py, PyData.weight, PyData.weightAll, Tm.sz]; omega
  | .kp t u => by have := wt_tm t; have := wt_tm u; have := c_size; simp only [Tm.py, PyData.weight, PyData.weightAll, Tm.sz]; omega
  | .th t u => by have := wt_tm t; have := wt_tm u; have := c_size; simp only [Tm.py, PyData.weight, PyData.weightAll, Tm.sz]; omega
theorem sh_tm : ∀ t : Tm, t.py.showable = true
  | .inn => by simp only [Tm.py, PyData.showable]
  | .un u t => by simp only [Tm.py, PyData.showable, PyData.showableAll, sh_tm t, Bool.and_self]
  | .late c t => by simp only [Tm.py, PyData.showable, PyData.showableAll, sh_tm t, Bool.and_self]
  | .bt a b c d t u => by simp only [Tm.py, PyData.showable, PyData.showableAll, sh_tm t, sh_tm u, Bool.and_self]
  | .kp t u => by simp only [Tm.py, PyData.showable, PyData.showableAll, sh_tm t, sh_tm u, Bool.and_self]
  | .th t u => by simp only [Tm.py, PyData.showable, PyData.showableAll, sh_tm t, sh_tm u, Bool.and_self]
theorem is_tm : ∀ t : Tm, t.py.intsShort 13 = true
  | .inn => by simp only [Tm.py, PyData.intsShort]
  | .un u t => by simp only [Tm.py, PyData.intsShort, PyData.intsShortAll, is_tm t, Bool.and_self]
  | .late c t => by simp only [Tm.py, PyData.intsShort, PyData.intsShortAll, is_tm t, Bool.and_self]
  | .bt a b c d t u => by simp only [Tm.py, PyData.intsShort, PyData.intsShortAll, is_tm t, is_tm u, Bool.and_self]
  | .kp t u => by simp only [Tm.py, PyData.intsShort, PyData.intsShortAll, is_tm t, is_tm u, Bool.and_self]
  | .th t u => by simp only [Tm.py, PyData.intsShort, PyData.intsShortAll, is_tm t, is_tm u, Bool.and_self]
theorem repr_tm (cs : Cells) {t : Tm} (h : t.sz ≤ 60) : biD cs .repr [t.d] = some (.str t.py.shown) := by
  have h1 := PyData.shown_le 13 (by decide) t.py (PyData.leavesShort_of_canLay0 13 t.py (lay_tm t) (is_tm t))
  have h2 := wt_tm t
  have h3 := cap8
  have h4 := dep_tm t
  have h5 : (t.py.showable && decide (t.py.depth ≤ 64)) = true ∧ t.py.shown.length ≤ cap ∧ t.py.hasDict = false :=
    ⟨by rw [sh_tm, decide_eq_true (by omega)]; rfl, by omega, PyData.hasDict_of_canLay t.py (lay_tm t)⟩
  simp only [biD, py_d, if_pos h5]
/-! ### text * number -/
theorem foldl_bs (q : List Bool) : ∀ (k : Nat) (a : Array Nat), (List.replicate k (bs q).cps).foldl (· ++ ·) a = a ++ (bs (List.replicate k q).flatten).cps
  | 0, a => by simp [bs]
  | k + 1, a => by
    rw [List.replicate_succ, List.foldl_cons, foldl_bs q k, List.replicate_succ, List.flatten_cons]
    simp [bs, List.map_append]
theorem mulS_bs (q : List Bool) (k : Nat) : mulS (bs q) (k : Int) = bs (List.replicate k q).flatten := by
  unfold mulS
  by_cases h0 : (k : Int) < 1
  · have : k = 0 := by omega
    subst this
    rw [if_pos h0]; rfl
  · rw [if_neg h0]
    by_cases h1 : ((k : Int) == 1 || (bs q).length == 0) = true
    · rw [if_pos h1]
      rw [Bool.or_eq_true, beq_iff_eq, beq_iff_eq, bs_len] at h1
      rcases h1 with h1 | h1
      · have : k = 1 := by omega
        subst this
        simp
      · have : q = [] := List.length_eq_zero_iff.mp h1
        subst this
        simp
    · rw [if_neg h1, Int.toNat_natCast, foldl_bs]
      simp [bs]
theorem rep_len (q : List Bool) (k : Nat) : (List.replicate k q).flatten.length = k * q.length := by simp
/-! ### begun -/
def lbB : Ss := (.cons (.asg (.nm 4) (.call 8 (.cons (.var 0) (.cons (.slc (.var 1) .no (.so (.var 3))) .nil)))) (.cons (.ifs (.or (.cons (.not (.mt .startswith (.var 4) (.cons (.var 2) .nil))) (.cons (.cmp .NotEq (.var 4) (.call 20 (.cons (.var 0) (.cons (.slc (.var 1) .no (.so (.var 3))) .nil)))) .nil))) (.cons (.ret (.cst (.bl false))) .nil) .nil) (.cons (.asg (.nm 2) (.var 4)) .nil)))
theorem lb_body : (td_law_begun_right 0).fd.body = (.cons (.asg (.nm 2) (.cst (.str ""))) (.cons (.for (.nm 3) (.rng1 (.op .Add (.bi .len (.cons (.var 1) .nil)) (.cst (.int 1)))) lbB) (.cons (.ret (.cst (.bl true))) .nil))) := rfl
theorem pre_take (t : Tm) (s : List Bool) (i : Nat) : fl t (s.take i) <+: fl t (s.take (i + 1)) := fl_pre t (by
  rw [List.take_add_one]; exact List.prefix_append _ _)
theorem sml {s : List Bool} {k : Nat} (i : Nat) (h : s.length * k ≤ 8000) : (s.take i).length * k ≤ 8000 := Nat.le_trans (Nat.mul_le_mul_right _ (by rw [List.length_take]; exact Nat.min_le_right _ _)) h
theorem lb_step (n : Nat) {t : Tm} {s : List Bool} (hN : t.sz + 6 ≤ n) (h9 : t.sz ≤ 9) (hl : s.length ≤ 1000) (hs : s.length * 2 ^ (t.sz - 1) ≤ 8000) (cs : Cells) (hc : Fz cs) (i : Nat) (last : List Bool) (hp : last <+: fl t (s.take i)) (x : Option D) :
    evSs (P n) 1000 lbB [some t.d, some (.str (bs s)), some (.str (bs last)), some (.int (i : Int)), x] cs = some (.nx [some t.d, some (.str (bs s)), some (.str (bs (fl t (s.take i)))), some (.int (i : Int)), some (.str (bs (fl t (s.take i))))] cs) := by
  have h8 := cap8
  have h1 : s.length ≤ cap := by omega
  have h2 : (s.take i).length ≤ 1000 := by rw [List.length_take]; omega
  have e1 := c_flowof hN h9 h2 (sml i hs) cs hc
  have e2 := c_lflow t (s.take i) n (by omega) (by omega) (sml i hs) cs hc
  simp only [lbB, evSs, evS, evE, evT, evEs, evAnd, evOr, evTA, evTO, evG, evGs, evO, evC, evL, evI, cmpD, opD, augD, idxD, slcD, mtOk, biD, truD, seqOf, lstOf, srcL, List.map_cons, List.map_nil, List.cons_append, List.nil_append, List.getElem?_cons_zero, List.getElem?_cons_succ, List.getElem?_nil, List.set_cons_zero, List.set_cons_succ, List.length_cons, List.length_nil, List.replicate_succ, List.replicate_zero, Nat.reduceSub, Nat.reduceAdd, Bool.false_eq_true, if_false, if_true, le0, le1, le2, le3, le4, le5, Int.reduceAdd, Int.reduceMul, Bool.not_true, Bool.not_false, bs_len, if_pos h1, bs_cut, e1, e2, mtD, starts_bs, decide_eq_true hp, eqB_ss, beq_self_eq_true]
theorem c_begun (n : Nat) {t : Tm} {s : List Bool} (hN : t.sz + 6 ≤ n) (h9 : t.sz ≤ 9) (hl : s.length ≤ 1000) (hs : s.length * 2 ^ (t.sz - 1) ≤ 8000) (cs : Cells) (hc : Fz cs) : P (n + 1) 24 [t.d, .str (bs s)] cs = some (.bl true, cs) := by
  have h8 := cap8
  have h1 : s.length ≤ cap := by omega
  obtain ⟨env', cs', g1, g2⟩ := for_inv (src := .fz (rngD 0 (s.length + 1))) (ds := rngD 0 (s.length + 1))
    (f := fun d env1 cs2 => evSs (P n) 1000 lbB (List.set env1 3 (some d)) cs2)
    (fun i env cs1 => cs1 = cs ∧ ∃ last x y, env = [some t.d, some (.str (bs s)), some (.str (bs last)), x, y] ∧ last <+: fl t (s.take i)) (fun i env cs _ => rfl)
    (fun i d env cs1 e hI => by
      obtain ⟨rfl, last, x, y, rfl, hp⟩ := hI
      have hi : i < s.length + 1 := by
        have := (List.getElem?_eq_some_iff.mp e).1
        rwa [rng_len] at this
      have e2 : d = .int (i : Int) := by
        unfold rngD at e
        rw [List.getElem?_map, List.getElem?_range hi, Option.map_some] at e
        injection e with e
        rw [← e, Int.zero_add]
      subst e2
      exact ⟨_, _, lb_step n hN h9 hl hs cs1 hc i last hp y, rfl, _, _, _, rfl, pre_take t s i⟩)
    ((rngD 0 (s.length + 1)).length + 1) 0 [some t.d, some (.str (bs s)), some (.str (Str.ofString "")), none, none] cs (by omega) (Nat.zero_le _) ⟨rfl, [], none, none, by rw [se], List.nil_prefix⟩
  obtain ⟨rfl, last, x, y, rfl, _⟩ := g2
  have hr : ((-(2 ^ 62) : Int) ≤ (s.length : Int) + 1 ∧ (s.length : Int) + 1 < 2 ^ 62) := ⟨by omega, by omega⟩
  have hr2 : ((s.length : Int) + 1).toNat = s.length + 1 := by omega
  rw [P_step (d := (td_law_begun_right 0).fd) rfl rfl, lb_body]
  simp only [td_law_begun_right, evSs, evS, evE, evT, evEs, evAnd, evOr, evTA, evTO, evG, evGs, evO, evC, evL, evI, cmpD, opD, augD, idxD, slcD, mtOk, biD, truD, seqOf, lstOf, srcL, List.map_cons, List.map_nil, List.cons_append, List.nil_append, List.getElem?_cons_zero, List.getElem?_cons_succ, List.getElem?_nil, List.set_cons_zero, List.set_cons_succ, List.length_cons, List.length_nil, List.replicate_succ, List.replicate_zero, Nat.reduceSub, Nat.reduceAdd, Bool.false_eq_true, if_false, if_true, le0, le1, le2, le3, le4, le5, Int.reduceAdd, Int.reduceMul, Bool.not_true, Bool.not_false, bs_len, if_pos h1, if_pos hr, hr2, Src.fuel]
  rw [g1]
  exact fin_same (fr_bl _) hc
/-! ### long streams -/
theorem t01 : Str.ofString "01" = bs [false, true] := by decide +kernel
theorem cut1000 (l : List Bool) : cutS (bs l) none (some 1000) = bs (l.take 1000) := bs_cut l 1000
theorem cut6 (l : List Bool) : cutS (bs l) none (some 6) = bs (l.take 6) := bs_cut l 6
theorem ss_nx {φ : Phi} {w : Nat} {s : S} {r : Ss} {env env1 : Sl} {cs cs1 : Cells} (h : evS φ w s env cs = some (.nx env1 cs1)) : evSs φ w (.cons s r) env cs = evSs φ w r env1 cs1 := by
  rw [evSs, h]
theorem ss_rt {φ : Phi} {w : Nat} {s : S} {r : Ss} {env : Sl} {d : D} {cs cs1 : Cells} (h : evS φ w s env cs = some (.rt d cs1)) : evSs φ w (.cons s r) env cs = some (.rt d cs1) := by
  rw [evSs, h]
def lg0 : S := (.par [4, 5] (.cons (.call 18 (.cons (.var 0) (.cons (.op .Add (.cst (.int 1)) (.call 16 (.cons (.var 0) (.cons (.cst (.int 4)) .nil)))) .nil))) (.cons (.op .Add (.cst (.int 200)) (.call 16 (.cons (.var 0) (.cons (.cst (.int 801)) .nil)))) .nil)))
def lg1 : S := (.asg (.nm 1) (.call 17 (.cons (.var 0) (.cons (.new false (.disp (.cons (.cst (.str "0")) (.cons (.cst (.str "1")) (.cons (.cst (.str "01")) (.cons (.op .Add (.call 21 (.cons (.var 0) (.cons (.cst (.int 12)) .nil))) (.cst (.str "1"))) .nil)))))) .nil))))
def lg2 : S := (.asg (.nm 2) (.call 21 (.cons (.var 0) (.cons (.cst (.int 4)) .nil))))
def lg3 : S := (.asg (.nm 3) (.op .Add (.call 17 (.cons (.var 0) (.cons (.new false (.disp (.cons (.cst (.str "")) (.cons (.cst (.str "1")) .nil)))) .nil))) (.op .Mult (.var 1) (.op .FloorDiv (.var 5) (.bi .len (.cons (.var 1) .nil))))))
def lg4 : S := (.asg (.nm 3) (.slc (.op .Add (.var 3) (.var 2)) .no (.so (.cst (.int 1000)))))
def lg5 : S := (.ret (.cmp .Eq (.call 8 (.cons (.var 4) (.cons (.var 3) .nil))) (.call 20 (.cons (.var 4) (.cons (.var 3) .nil)))))
theorem lg_body : (td_law_long_right 0).fd.body = (.cons lg0 (.cons lg1 (.cons lg2 (.cons lg3 (.cons lg4 (.cons lg5 .nil)))))) := rfl

def lgF : E := .op .FloorDiv (.var 5) (.bi .len (.cons (.var 1) .nil))
theorem op_rep (q : List Bool) (k : Nat) (c4 : -(2 ^ 63 : Int) ≤ (k : Int) ∧ (k : Int) < 2 ^ 63 ∧ q.length * (k : Int).toNat ≤ cap ∧ (List.replicate k q).flatten.length ≤ cap) :
  opD .Mult (.str (bs q)) (.int k) = some (.str (bs (List.replicate k q).flatten)) := by
  rw [opD, mulS_bs, bs_len, bs_len, if_pos c4]
theorem ev_op {φ : Phi} {a b : E} {o : Operator} {env : Sl} {x y z : D} {cs cs1 cs2 : Cells} (h1 : evE φ a env cs = some (x, cs1)) (h2 : evE φ b env cs1 = some (y, cs2)) (h3 : opD o x y = some z) : evE φ (.op o a b) env cs = some (z, cs2) := by
  rw [evE, h1]
  dsimp only
  rw [h2]
  dsimp only
  rw [h3]
theorem ev_asg {φ : Phi} {w i : Nat} {e : E} {env : Sl} {d : D} {cs cs1 : Cells} (h : evE φ e env cs = some (d, cs1)) : evS φ w (.asg (.nm i) e) env cs = some (.nx (env.set i (some d)) cs1) := by
  rw [evS, h]
  dsimp only
  rw [evG]
def lgA : E := (.call 17 (.cons (.var 0) (.cons (.new false (.disp (.cons (.cst (.str "")) (.cons (.cst (.str "1")) .nil)))) .nil)))
def lgM : E := (.op .Mult (.var 1) (.op .FloorDiv (.var 5) (.bi .len (.cons (.var 1) .nil))))
theorem lg3_eq : lg3 = .asg (.nm 3) (.op .Add lgA lgM) := rfl
theorem c_long {p m : Nat} (n : Nat) (cs : Cells) (h : Pt p m cs) : ∃ cs', P (n + 12) 25 [.ref p] cs = some (.bl true, cs') ∧ Pt p m cs' := by
  have h8 := cap8
  obtain ⟨r1, cs1, e1, r1a, r1b, h1⟩ := c_draw (n + 10) 4 ⟨by decide, by decide⟩ cs h
  obtain ⟨t, cs2, e2, ht, h2⟩ := c_term (p := p) (m := m) 3 (1 + r1) (n + 11) (by omega) (by omega) (by omega) cs1 h1
  obtain ⟨r2, cs3, e3, r2a, r2b, h3⟩ := c_draw (n + 10) 801 ⟨by decide, by decide⟩ cs2 h2
  obtain ⟨l, cs4, e4, hl, h4⟩ := c_str (n + 8) 12 ⟨by decide, by decide⟩ cs3 h3
  obtain ⟨x, cs5, e5, hx, h5⟩ := c_pick (n + 9) [.str (bs [false]), .str (bs [true]), .str (bs [false, true]), .str (bs (l ++ [true]))] (by simp) (by simp) (fun d hd => by
    simp only [List.mem_cons, List.not_mem_nil, or_false] at hd
    rcases hd with rfl | rfl | rfl | rfl <;> exact fr_str _) cs4 h4
  have hx' : ∃ q : List Bool, x = .str (bs q) ∧ 1 ≤ q.length ∧ q.length ≤ 13 := by
    simp only [List.mem_cons, List.not_mem_nil, or_false] at hx
    rcases hx with rfl | rfl | rfl | rfl
    · exact ⟨_, rfl, by simp, by simp⟩
    · exact ⟨_, rfl, by simp, by simp⟩
    · exact ⟨_, rfl, by simp, by simp⟩
    · exact ⟨_, rfl, by simp, by simp; omega⟩
  obtain ⟨q, rfl, q1, q2⟩ := hx'
  obtain ⟨l2, cs6, e6, hl2, h6⟩ := c_str (n + 8) 4 ⟨by decide, by decide⟩ cs5 h5
  obtain ⟨y, cs7, e7, hy, h7⟩ := c_pick (n + 9) [.str (bs []), .str (bs [true])] (by simp) (by simp) (fun d hd => by
    simp only [List.mem_cons, List.not_mem_nil, or_false] at hd
    rcases hd with rfl | rfl <;> exact fr_str _) cs6 h6
  have hy' : ∃ e : List Bool, y = .str (bs e) ∧ e.length ≤ 1 := by
    simp only [List.mem_cons, List.not_mem_nil, or_false] at hy
    rcases hy with rfl | rfl
    · exact ⟨_, rfl, by simp⟩
    · exact ⟨_, rfl, by simp⟩
  obtain ⟨e, rfl, he⟩ := hy'
  have hk : ((200 : Int) + r2).fdiv (q.length : Int) = (((200 + r2).toNat / q.length : Nat) : Int) := by
    rw [Int.fdiv_eq_ediv_of_nonneg _ (by omega)]
    generalize hN : (200 + r2).toNat = N
    have : (200 : Int) + r2 = (N : Int) := by omega
    rw [this]
    exact (Int.natCast_ediv _ _).symm
  have hkl : (200 + r2).toNat / q.length * q.length ≤ 1000 := Nat.le_trans (Nat.div_mul_le_self _ _) (by omega)
  have hkm : q.length * ((200 + r2).toNat / q.length) ≤ 1000 := by rw [Nat.mul_comm]; exact hkl
  have hkk : (200 + r2).toNat / q.length ≤ 1000 := Nat.le_trans (Nat.div_le_self _ _) (by omega)
  generalize (200 + r2).toNat / q.length = k at hk hkl hkm hkk
  have c1 : l.length + 1 ≤ cap := by omega
  have c2 : ((q.length : Int) ≠ 0 ∧ (q.length : Int).natAbs < 1073741824) := ⟨by omega, by omega⟩
  have c3 : q.length ≤ cap := by omega
  have c4 : -(2 ^ 63 : Int) ≤ (k : Int) ∧ (k : Int) < 2 ^ 63 ∧ q.length * (k : Int).toNat ≤ cap ∧ (List.replicate k q).flatten.length ≤ cap := ⟨by omega, by omega, by rw [Int.toNat_natCast]; omega, by rw [rep_len]; omega⟩
  have c5 : e.length + (List.replicate k q).flatten.length ≤ cap := by rw [rep_len]; omega
  have c6 : (e ++ (List.replicate k q).flatten).length + l2.length ≤ cap := by rw [List.length_append, rep_len]; omega
  have c7 : (e ++ (List.replicate k q).flatten ++ l2).length ≤ cap := by rw [List.length_append]; exact c6
  have s2 : (e ++ (List.replicate k q).flatten ++ l2).take 1000 = (e ++ (List.replicate k q).flatten ++ l2).take 1000 := rfl
  generalize hS : (e ++ (List.replicate k q).flatten ++ l2).take 1000 = S at s2
  have c8 : S.length ≤ 1000 := by rw [← hS, List.length_take]; omega
  have ht4 : t.sz ≤ 4 := by omega
  have c9 : S.length * 2 ^ (t.sz - 1) ≤ 8000 := Nat.le_trans (Nat.mul_le_mul c8 (Nat.pow_le_pow_right (by omega) (by omega : t.sz - 1 ≤ 3))) (by decide)
  have f1 := c_flowof (N := n + 11) (t := t) (s := S) (by omega) (by omega) c8 c9 cs7 h7.1
  have f2 := c_lflow t S (n + 11) (by omega) (by omega) c9 cs7 h7.1
  refine ⟨cs7, ?_, h7⟩
  have g0 : evS (P (n + 11)) 1000 lg0 [some (.ref p), none, none, none, none, none] cs = some (.nx [some (.ref p), none, none, none, some t.d, some (.int (200 + r2))] cs3) := by
    simp only [lg0, evSs, evS, evE, evT, evEs, evAnd, evOr, evTA, evTO, evG, evGs, evO, evC, evL, evI, cmpD, opD, augD, idxD, slcD, mtOk, biD, truD, seqOf, lstOf, srcL, List.map_cons, List.map_nil, List.cons_append, List.nil_append, List.getElem?_cons_zero, List.getElem?_cons_succ, List.getElem?_nil, List.set_cons_zero, List.set_cons_succ, List.length_cons, List.length_nil, List.replicate_succ, List.replicate_zero, Nat.reduceSub, Nat.reduceAdd, Bool.false_eq_true, if_false, if_true, le0, le1, le2, le3, le4, le5, Int.reduceAdd, Int.reduceMul, Bool.not_true, Bool.not_false, e1, e2, e3, List.zip_cons_cons, List.zip_nil_left, List.foldl_cons, List.foldl_nil]
  have g1 : evS (P (n + 11)) 1000 lg1 [some (.ref p), none, none, none, some t.d, some (.int (200 + r2))] cs3 = some (.nx [some (.ref p), some (.str (bs q)), none, none, some t.d, some (.int (200 + r2))] cs5) := by
    simp only [lg1, evSs, evS, evE, evT, evEs, evAnd, evOr, evTA, evTO, evG, evGs, evO, evC, evL, evI, cmpD, opD, augD, idxD, slcD, mtOk, biD, truD, seqOf, lstOf, srcL, List.map_cons, List.map_nil, List.cons_append, List.nil_append, List.getElem?_cons_zero, List.getElem?_cons_succ, List.getElem?_nil, List.set_cons_zero, List.set_cons_succ, List.length_cons, List.length_nil, List.replicate_succ, List.replicate_zero, Nat.reduceSub, Nat.reduceAdd, Bool.false_eq_true, if_false, if_true, le0, le1, le2, le3, le4, le5, Int.reduceAdd, Int.reduceMul, Bool.not_true, Bool.not_false, s1, s0, t01, sg_bs, e4, bs_len, if_pos c1, bs_app, e5]
  have g2 : evS (P (n + 11)) 1000 lg2 [some (.ref p), some (.str (bs q)), none, none, some t.d, some (.int (200 + r2))] cs5 = some (.nx [some (.ref p), some (.str (bs q)), some (.str (bs l2)), none, some t.d, some (.int (200 + r2))] cs6) := by
    simp only [lg2, evSs, evS, evE, evT, evEs, evAnd, evOr, evTA, evTO, evG, evGs, evO, evC, evL, evI, cmpD, opD, augD, idxD, slcD, mtOk, biD, truD, seqOf, lstOf, srcL, List.map_cons, List.map_nil, List.cons_append, List.nil_append, List.getElem?_cons_zero, List.getElem?_cons_succ, List.getElem?_nil, List.set_cons_zero, List.set_cons_succ, List.length_cons, List.length_nil, List.replicate_succ, List.replicate_zero, Nat.reduceSub, Nat.reduceAdd, Bool.false_eq_true, if_false, if_true, le0, le1, le2, le3, le4, le5, Int.reduceAdd, Int.reduceMul, Bool.not_true, Bool.not_false, e6]
  have g3 : evS (P (n + 11)) 1000 lg3 [some (.ref p), some (.str (bs q)), some (.str (bs l2)), none, some t.d, some (.int (200 + r2))] cs6 = some (.nx [some (.ref p), some (.str (bs q)), some (.str (bs l2)), some (.str (bs (e ++ (List.replicate k q).flatten))), some t.d, some (.int (200 + r2))] cs7) := by
    have hA : evE (P (n + 11)) lgA [some (.ref p), some (.str (bs q)), some (.str (bs l2)), none, some t.d, some (.int (200 + r2))] cs6 = some (.str (bs e), cs7) := by
      simp only [lgA, evSs, evS, evE, evT, evEs, evAnd, evOr, evTA, evTO, evG, evGs, evO, evC, evL, evI, cmpD, opD, augD, idxD, slcD, mtOk, biD, truD, seqOf, lstOf, srcL, List.map_cons, List.map_nil, List.cons_append, List.nil_append, List.getElem?_cons_zero, List.getElem?_cons_succ, List.getElem?_nil, List.set_cons_zero, List.set_cons_succ, List.length_cons, List.length_nil, List.replicate_succ, List.replicate_zero, Nat.reduceSub, Nat.reduceAdd, Bool.false_eq_true, if_false, if_true, le0, le1, le2, le3, le4, le5, Int.reduceAdd, Int.reduceMul, Bool.not_true, Bool.not_false, s1, se, sg_bs, e7]
    have hv : evE (P (n + 11)) (.var 1) [some (.ref p), some (.str (bs q)), some (.str (bs l2)), none, some t.d, some (.int (200 + r2))] cs7 = some (.str (bs q), cs7) := by
      simp only [evSs, evS, evE, evT, evEs, evAnd, evOr, evTA, evTO, evG, evGs, evO, evC, evL, evI, cmpD, opD, augD, idxD, slcD, mtOk, biD, truD, seqOf, lstOf, srcL, List.map_cons, List.map_nil, List.cons_append, List.nil_append, List.getElem?_cons_zero, List.getElem?_cons_succ, List.getElem?_nil, List.set_cons_zero, List.set_cons_succ, List.length_cons, List.length_nil, List.replicate_succ, List.replicate_zero, Nat.reduceSub, Nat.reduceAdd, Bool.false_eq_true, if_false, if_true, le0, le1, le2, le3, le4, le5, Int.reduceAdd, Int.reduceMul, Bool.not_true, Bool.not_false]
    have hF : evE (P (n + 11)) lgF [some (.ref p), some (.str (bs q)), some (.str (bs l2)), none, some t.d, some (.int (200 + r2))] cs7 = some (.int k, cs7) := by
      simp only [lgF, evSs, evS, evE, evT, evEs, evAnd, evOr, evTA, evTO, evG, evGs, evO, evC, evL, evI, cmpD, opD, augD, idxD, slcD, mtOk, biD, truD, seqOf, lstOf, srcL, List.map_cons, List.map_nil, List.cons_append, List.nil_append, List.getElem?_cons_zero, List.getElem?_cons_succ, List.getElem?_nil, List.set_cons_zero, List.set_cons_succ, List.length_cons, List.length_nil, List.replicate_succ, List.replicate_zero, Nat.reduceSub, Nat.reduceAdd, Bool.false_eq_true, if_false, if_true, le0, le1, le2, le3, le4, le5, Int.reduceAdd, Int.reduceMul, Bool.not_true, Bool.not_false, bs_len, if_pos c2, if_pos c3, hk]
    have hM : evE (P (n + 11)) lgM [some (.ref p), some (.str (bs q)), some (.str (bs l2)), none, some t.d, some (.int (200 + r2))] cs7 = some (.str (bs (List.replicate k q).flatten), cs7) := ev_op hv hF (op_rep q k c4)
    have hD : opD .Add (.str (bs e)) (.str (bs (List.replicate k q).flatten)) = some (.str (bs (e ++ (List.replicate k q).flatten))) := by
      simp only [opD, bs_len, if_pos c5, bs_app]
    rw [lg3_eq]
    exact ev_asg (ev_op hA hM hD)
  have g4 : evS (P (n + 11)) 1000 lg4 [some (.ref p), some (.str (bs q)), some (.str (bs l2)), some (.str (bs (e ++ (List.replicate k q).flatten))), some t.d, some (.int (200 + r2))] cs7 = some (.nx [some (.ref p), some (.str (bs q)), some (.str (bs l2)), some (.str (bs S)), some t.d, some (.int (200 + r2))] cs7) := by
    simp only [lg4, evSs, evS, evE, evT, evEs, evAnd, evOr, evTA, evTO, evG, evGs, evO, evC, evL, evI, cmpD, opD, augD, idxD, slcD, mtOk, biD, truD, seqOf, lstOf, srcL, List.map_cons, List.map_nil, List.cons_append, List.nil_append, List.getElem?_cons_zero, List.getElem?_cons_succ, List.getElem?_nil, List.set_cons_zero, List.set_cons_succ, List.length_cons, List.length_nil, List.replicate_succ, List.replicate_zero, Nat.reduceSub, Nat.reduceAdd, Bool.false_eq_true, if_false, if_true, le0, le1, le2, le3, le4, le5, Int.reduceAdd, Int.reduceMul, Bool.not_true, Bool.not_false, bs_len, if_pos c6, if_pos c7, bs_app, cut1000, hS]
  have g5 : evS (P (n + 11)) 1000 lg5 [some (.ref p), some (.str (bs q)), some (.str (bs l2)), some (.str (bs S)), some t.d, some (.int (200 + r2))] cs7 = some (.rt (.bl true) cs7) := by
    simp only [lg5, evSs, evS, evE, evT, evEs, evAnd, evOr, evTA, evTO, evG, evGs, evO, evC, evL, evI, cmpD, opD, augD, idxD, slcD, mtOk, biD, truD, seqOf, lstOf, srcL, List.map_cons, List.map_nil, List.cons_append, List.nil_append, List.getElem?_cons_zero, List.getElem?_cons_succ, List.getElem?_nil, List.set_cons_zero, List.set_cons_succ, List.length_cons, List.length_nil, List.replicate_succ, List.replicate_zero, Nat.reduceSub, Nat.reduceAdd, Bool.false_eq_true, if_false, if_true, le0, le1, le2, le3, le4, le5, Int.reduceAdd, Int.reduceMul, Bool.not_true, Bool.not_false, f1, f2, eqB_ss, beq_self_eq_true]
  rw [P_step (d := (td_law_long_right 0).fd) rfl rfl, lg_body]
  have gg : evSs (P (n + 11)) 1000 (.cons lg0 (.cons lg1 (.cons lg2 (.cons lg3 (.cons lg4 (.cons lg5 .nil)))))) [some (.ref p), none, none, none, none, none] cs = some (.rt (.bl true) cs7) := by
    rw [ss_nx g0, ss_nx g1, ss_nx g2, ss_nx g3, ss_nx g4, ss_rt g5]
  simp only [td_law_long_right, List.map_cons, List.map_nil, List.length_cons, List.length_nil, List.cons_append, List.nil_append, List.replicate_succ, List.replicate_zero, Nat.reduceSub, Nat.reduceAdd, gg]
  exact pfin h7 h.2.1 (fr_bl _)
end Mc
set_option Elab.async false
set_option linter.all false
set_option maxRecDepth 100000
set_option maxHeartbeats 2000000
namespace Mc
open PySem PySem.Spec PyProof.Rows L2
def lr0 : S := (.ifs (.and (.cons (.cmp .Eq (.call 16 (.cons (.var 0) (.cons (.cst (.int 3)) .nil))) (.cst (.int 0))) (.cons (.not (.call 25 (.cons (.var 0) .nil))) .nil))) (.cons (.ret (.cst (.bl false))) .nil) .nil)
def lr1 : S := (.asg (.nm 1) (.call 18 (.cons (.var 0) (.cons (.op .Add (.cst (.int 1)) (.call 16 (.cons (.var 0) (.cons (.cst (.int 8)) .nil)))) .nil))))
def lr2 : S := (.asg (.nm 2) (.call 21 (.cons (.var 0) (.cons (.call 17 (.cons (.var 0) (.cons (.new false (.disp (.cons (.cst (.int 12)) (.cons (.cst (.int 12)) (.cons (.cst (.int 12)) (.cons (.cst (.int 5)) (.cons (.cst (.int 30)) .nil))))))) .nil))) .nil))))
def lr3 : S := (.par [5, 6] (.cons (.bi .repr (.cons (.var 1) .nil)) (.cons (.call 20 (.cons (.var 1) (.cons (.var 2) .nil))) .nil)))
def lr4 : S := (.ifs (.or (.cons (.not (.call 4 (.cons (.var 1) .nil))) (.cons (.cmp .NotEq (.call 8 (.cons (.var 1) (.cons (.var 2) .nil))) (.var 6)) (.cons (.cmp .NotEq (.callK ⟨8, 0, ["stream", "term"], [], [1, 0]⟩ .nil (.cons (.var 2) (.cons (.var 1) .nil))) (.var 6)) .nil)))) (.cons (.ret (.cst (.bl false))) .nil) .nil)
def lr5 : S := (.asg (.nm 3) (.call 23 (.cons (.var 0) (.cons (.var 1) .nil))))
def lr6 : S := (.asg (.nm 4) (.cmp .Lt (.call 22 (.cons (.var 3) .nil)) (.cst (.int 10))))
def lr7 : S := (.ifs (.or (.cons (.cmp .NotEq (.call 4 (.cons (.var 3) .nil)) (.var 4)) (.cons (.and (.cons (.var 4) (.cons (.cmp .NotEq (.call 8 (.cons (.var 3) (.cons (.var 2) .nil))) (.call 20 (.cons (.var 3) (.cons (.var 2) .nil)))) .nil))) .nil))) (.cons (.ret (.cst (.bl false))) .nil) .nil)
def lr8 : S := (.ifs (.or (.cons (.not (.call 24 (.cons (.var 1) (.cons (.slc (.var 2) .no (.so (.cst (.int 6)))) .nil)))) (.cons (.cmp .NotEq (.call 8 (.cons (.var 1) (.cons (.cst (.str "")) .nil))) (.cst (.str ""))) .nil))) (.cons (.ret (.cst (.bl false))) .nil) .nil)
def lr9 : S := (.ret (.and (.cons (.cmp .Eq (.call 8 (.cons (.var 1) (.cons (.var 2) .nil))) (.var 6)) (.cons (.cmp .Eq (.bi .repr (.cons (.var 1) .nil)) (.var 5)) .nil))))
theorem lr_body : (td_law_right 0).fd.body = (.cons lr0 (.cons lr1 (.cons lr2 (.cons lr3 (.cons lr4 (.cons lr5 (.cons lr6 (.cons lr7 (.cons lr8 (.cons lr9 .nil)))))))))) := rfl

theorem ss_ifs_f {φ : Phi} {w : Nat} {c : E} {a r : Ss} {env : Sl} {cs cs1 : Cells} (h : evT φ c env cs = some (false, cs1)) : evSs φ w (.cons (.ifs c a .nil) r) env cs = evSs φ w r env cs1 := by
  have h2 : evS φ w (.ifs c a .nil) env cs = some (.nx env cs1) := by
    rw [evS, h]
    dsimp only
    rw [evSs]
  exact ss_nx h2
def lrc0 : E := (.and (.cons (.cmp .Eq (.call 16 (.cons (.var 0) (.cons (.cst (.int 3)) .nil))) (.cst (.int 0))) (.cons (.not (.call 25 (.cons (.var 0) .nil))) .nil)))
def lrc1 : E := (.or (.cons (.not (.call 4 (.cons (.var 1) .nil))) (.cons (.cmp .NotEq (.call 8 (.cons (.var 1) (.cons (.var 2) .nil))) (.var 6)) (.cons (.cmp .NotEq (.callK ⟨8, 0, ["stream", "term"], [], [1, 0]⟩ .nil (.cons (.var 2) (.cons (.var 1) .nil))) (.var 6)) .nil))))
def lrc2 : E := (.or (.cons (.cmp .NotEq (.call 4 (.cons (.var 3) .nil)) (.var 4)) (.cons (.and (.cons (.var 4) (.cons (.cmp .NotEq (.call 8 (.cons (.var 3) (.cons (.var 2) .nil))) (.call 20 (.cons (.var 3) (.cons (.var 2) .nil)))) .nil))) .nil)))
def lrc3 : E := (.or (.cons (.not (.call 24 (.cons (.var 1) (.cons (.slc (.var 2) .no (.so (.cst (.int 6)))) .nil)))) (.cons (.cmp .NotEq (.call 8 (.cons (.var 1) (.cons (.cst (.str "")) .nil))) (.cst (.str ""))) .nil)))
def lrF : Ss := (.cons (.ret (.cst (.bl false))) .nil)
theorem lr0_eq : lr0 = .ifs lrc0 lrF .nil := rfl
theorem lr4_eq : lr4 = .ifs lrc1 lrF .nil := rfl
theorem lr7_eq : lr7 = .ifs lrc2 lrF .nil := rfl
theorem lr8_eq : lr8 = .ifs lrc3 lrF .nil := rfl
theorem eq_bb (cs : Cells) (b : Bool) : eqB cs (.bl b) (.bl b) = some true := by
  cases b
  · show eqP cs (.bl false) (.bl false) = _
    unfold eqP
    have : SeqAt.shaped (.bool false) = true := by decide +kernel
    simp only [py, py0, this, Bool.and_self, if_true]
    decide +kernel
  · show eqP cs (.bl true) (.bl true) = _
    unfold eqP
    have : SeqAt.shaped (.bool true) = true := by decide +kernel
    simp only [py, py0, this, Bool.and_self, if_true]
    decide +kernel
theorem le_lt (k : Nat) : decide (((k : Nat) : Int) < 10) = decide (k ≤ 9) := by
  by_cases h : k ≤ 9
  · rw [decide_eq_true h, decide_eq_true (by omega)]
  · rw [decide_eq_false h, decide_eq_false (by omega)]
theorem e_cond0 {p m : Nat} (n : Nat) (cs : Cells) (h : Pt p m cs) (a b c d e f : Option D) : ∃ cs', evT (P (n + 12)) lrc0 [some (.ref p), a, b, c, d, e, f] cs = some (false, cs') ∧ Pt p m cs' := by
  obtain ⟨r, cs1, e1, r0, r1, h1⟩ := c_draw (n + 11) 3 ⟨by decide, by decide⟩ cs h
  obtain ⟨cs2, e2, h2⟩ := c_long n cs1 h1
  cases hr : (r == 0) with
  | true => exact ⟨cs2, by simp only [lrc0, evSs, evS, evE, evT, evEs, evAnd, evOr, evTA, evTO, evG, evGs, evO, evC, evL, evI, cmpD, opD, augD, idxD, slcD, mtOk, biD, truD, seqOf, lstOf, srcL, List.map_cons, List.map_nil, List.cons_append, List.nil_append, List.getElem?_cons_zero, List.getElem?_cons_succ, List.getElem?_nil, List.set_cons_zero, List.set_cons_succ, List.length_cons, List.length_nil, List.replicate_succ, List.replicate_zero, Nat.reduceSub, Nat.reduceAdd, Bool.false_eq_true, if_false, if_true, le0, le1, le2, le3, le4, le5, Int.reduceAdd, Int.reduceMul, Bool.not_true, Bool.not_false, e1, e2, eqB_ii, hr], h2⟩
  | false => exact ⟨cs1, by simp only [lrc0, evSs, evS, evE, evT, evEs, evAnd, evOr, evTA, evTO, evG, evGs, evO, evC, evL, evI, cmpD, opD, augD, idxD, slcD, mtOk, biD, truD, seqOf, lstOf, srcL, List.map_cons, List.map_nil, List.cons_append, List.nil_append, List.getElem?_cons_zero, List.getElem?_cons_succ, List.getElem?_nil, List.set_cons_zero, List.set_cons_succ, List.length_cons, List.length_nil, List.replicate_succ, List.replicate_zero, Nat.reduceSub, Nat.reduceAdd, Bool.false_eq_true, if_false, if_true, le0, le1, le2, le3, le4, le5, Int.reduceAdd, Int.reduceMul, Bool.not_true, Bool.not_false, e1, eqB_ii, hr], h1⟩
theorem c_right {p m : Nat} (n : Nat) (cs : Cells) (h : Pt p m cs) : ∃ cs', P (n + 30) 26 [.ref p] cs = some (.bl true, cs') ∧ Pt p m cs' := by
  have h8 := cap8
  obtain ⟨cs1, e1, h1⟩ := e_cond0 (n + 17) cs h none none none none none none
  obtain ⟨r1, cs2, e2, r1a, r1b, h2⟩ := c_draw (n + 28) 8 ⟨by decide, by decide⟩ cs1 h1
  obtain ⟨t, cs3, e3, ht, h3⟩ := c_term (p := p) (m := m) 7 (1 + r1) (n + 29) (by omega) (by omega) (by omega) cs2 h2
  obtain ⟨x, cs4, e4, hx, h4⟩ := c_pick (n + 27) [.int 12, .int 12, .int 12, .int 5, .int 30] (by simp) (by simp) (fun d hd => by
    simp only [List.mem_cons, List.not_mem_nil, or_false] at hd
    rcases hd with rfl | rfl | rfl | rfl | rfl <;> exact fr_int _) cs3 h3
  have hx' : ∃ k : Int, x = .int k ∧ 0 ≤ k ∧ k ≤ 30 := by
    simp only [List.mem_cons, List.not_mem_nil, or_false] at hx
    rcases hx with rfl | rfl | rfl | rfl | rfl <;> exact ⟨_, rfl, by decide, by decide⟩
  obtain ⟨k, rfl, k0, k1⟩ := hx'
  obtain ⟨s, cs5, e5, hs, h5⟩ := c_str (n + 26) k ⟨k0, by omega⟩ cs4 h4
  have ht8 : t.sz ≤ 8 := by omega
  have hs30 : s.length ≤ 30 := by omega
  have hp2 : ∀ v : Tm, v.sz ≤ 9 → s.length * 2 ^ (v.sz - 1) ≤ 8000 := fun v hv => Nat.le_trans (Nat.mul_le_mul hs30 (Nat.pow_le_pow_right (by omega) (by omega : v.sz - 1 ≤ 8))) (by decide)
  have f1 := fun cs (hc : Fz cs) => c_flowof (N := n + 29) (t := t) (s := s) (by omega) (by omega) (by omega) (hp2 t (by omega)) cs hc
  have f2 := fun cs (hc : Fz cs) => c_lflow t s (n + 29) (by omega) (by omega) (hp2 t (by omega)) cs hc
  have f3 := fun cs (hc : Fz cs) => c_isterm (n + 26) (t := t) (by omega) cs hc
  have d9 : decide (t.sz ≤ 9) = true := decide_eq_true (by omega)
  obtain ⟨u, cs6, e6, hu, h6⟩ := c_around (n + 26) t cs5 h5
  have u1 := fun cs (hc : Fz cs) => c_isterm (n + 26) (t := u) (by omega) cs hc
  have u2 := fun cs (hc : Fz cs) => c_nodes u.sz u (n + 29) (Nat.le_refl _) (by omega) (by omega) cs hc
  have hb := c_begun (n + 28) (t := t) (s := s.take 6) (by omega) (by omega) (by rw [List.length_take]; omega) (sml 6 (hp2 t (by omega))) cs6 h6.1
  have fn := c_flowof (N := n + 29) (t := t) (s := []) (by omega) (by omega) (by simp) (by simp) cs6 h6.1
  rw [fl_nil] at fn
  have hsh : (t.py.showable && decide (t.py.depth ≤ 64)) = true ∧ t.py.shown.length ≤ cap ∧ t.py.hasDict = false := by
    have h1 := PyData.shown_le 13 (by decide) t.py (PyData.leavesShort_of_canLay0 13 t.py (lay_tm t) (is_tm t))
    have h2 := wt_tm t
    have h4 := dep_tm t
    exact ⟨by rw [sh_tm, decide_eq_true (by omega)]; rfl, by omega, PyData.hasDict_of_canLay t.py (lay_tm t)⟩
  have g1 : evS (P (n + 29)) 1000 lr1 [some (.ref p), none, none, none, none, none, none] cs1 = some (.nx [some (.ref p), some t.d, none, none, none, none, none] cs3) := by
    simp only [lr1, evSs, evS, evE, evT, evEs, evAnd, evOr, evTA, evTO, evG, evGs, evO, evC, evL, evI, cmpD, opD, augD, idxD, slcD, mtOk, biD, truD, seqOf, lstOf, srcL, List.map_cons, List.map_nil, List.cons_append, List.nil_append, List.getElem?_cons_zero, List.getElem?_cons_succ, List.getElem?_nil, List.set_cons_zero, List.set_cons_succ, List.length_cons, List.length_nil, List.replicate_succ, List.replicate_zero, Nat.reduceSub, Nat.reduceAdd, Bool.false_eq_true, if_false, if_true, le0, le1, le2, le3, le4, le5, Int.reduceAdd, Int.reduceMul, Bool.not_true, Bool.not_false, e2, e3]
  have g2 : evS (P (n + 29)) 1000 lr2 [some (.ref p), some t.d, none, none, none, none, none] cs3 = some (.nx [some (.ref p), some t.d, some (.str (bs s)), none, none, none, none] cs5) := by
    simp only [lr2, evSs, evS, evE, evT, evEs, evAnd, evOr, evTA, evTO, evG, evGs, evO, evC, evL, evI, cmpD, opD, augD, idxD, slcD, mtOk, biD, truD, seqOf, lstOf, srcL, List.map_cons, List.map_nil, List.cons_append, List.nil_append, List.getElem?_cons_zero, List.getElem?_cons_succ, List.getElem?_nil, List.set_cons_zero, List.set_cons_succ, List.length_cons, List.length_nil, List.replicate_succ, List.replicate_zero, Nat.reduceSub, Nat.reduceAdd, Bool.false_eq_true, if_false, if_true, le0, le1, le2, le3, le4, le5, Int.reduceAdd, Int.reduceMul, Bool.not_true, Bool.not_false, e4, e5]
  have g3 : evS (P (n + 29)) 1000 lr3 [some (.ref p), some t.d, some (.str (bs s)), none, none, none, none] cs5 = some (.nx [some (.ref p), some t.d, some (.str (bs s)), none, none, some (.str t.py.shown), some (.str (bs (fl t s)))] cs5) := by
    simp only [lr3, evSs, evS, evE, evT, evEs, evAnd, evOr, evTA, evTO, evG, evGs, evO, evC, evL, evI, cmpD, opD, augD, idxD, slcD, mtOk, biD, truD, seqOf, lstOf, srcL, List.map_cons, List.map_nil, List.cons_append, List.nil_append, List.getElem?_cons_zero, List.getElem?_cons_succ, List.getElem?_nil, List.set_cons_zero, List.set_cons_succ, List.length_cons, List.length_nil, List.replicate_succ, List.replicate_zero, Nat.reduceSub, Nat.reduceAdd, Bool.false_eq_true, if_false, if_true, le0, le1, le2, le3, le4, le5, Int.reduceAdd, Int.reduceMul, Bool.not_true, Bool.not_false, py_d, if_pos hsh, f2 cs5 h5.1, List.zip_cons_cons, List.zip_nil_left, List.foldl_cons, List.foldl_nil]
  have g4 : evT (P (n + 29)) lrc1 [some (.ref p), some t.d, some (.str (bs s)), none, none, some (.str t.py.shown), some (.str (bs (fl t s)))] cs5 = some (false, cs5) := by
    simp only [lrc1, evSs, evS, evE, evT, evEs, evAnd, evOr, evTA, evTO, evG, evGs, evO, evC, evL, evI, cmpD, opD, augD, idxD, slcD, mtOk, biD, truD, seqOf, lstOf, srcL, List.map_cons, List.map_nil, List.cons_append, List.nil_append, List.getElem?_cons_zero, List.getElem?_cons_succ, List.getElem?_nil, List.set_cons_zero, List.set_cons_succ, List.length_cons, List.length_nil, List.replicate_succ, List.replicate_zero, Nat.reduceSub, Nat.reduceAdd, Bool.false_eq_true, if_false, if_true, le0, le1, le2, le3, le4, le5, Int.reduceAdd, Int.reduceMul, Bool.not_true, Bool.not_false, f3 cs5 h5.1, d9, f1 cs5 h5.1, eqB_ss, beq_self_eq_true, permD, and_self]
  have g5 : evS (P (n + 29)) 1000 lr5 [some (.ref p), some t.d, some (.str (bs s)), none, none, some (.str t.py.shown), some (.str (bs (fl t s)))] cs5 = some (.nx [some (.ref p), some t.d, some (.str (bs s)), some u.d, none, some (.str t.py.shown), some (.str (bs (fl t s)))] cs6) := by
    simp only [lr5, evSs, evS, evE, evT, evEs, evAnd, evOr, evTA, evTO, evG, evGs, evO, evC, evL, evI, cmpD, opD, augD, idxD, slcD, mtOk, biD, truD, seqOf, lstOf, srcL, List.map_cons, List.map_nil, List.cons_append, List.nil_append, List.getElem?_cons_zero, List.getElem?_cons_succ, List.getElem?_nil, List.set_cons_zero, List.set_cons_succ, List.length_cons, List.length_nil, List.replicate_succ, List.replicate_zero, Nat.reduceSub, Nat.reduceAdd, Bool.false_eq_true, if_false, if_true, le0, le1, le2, le3, le4, le5, Int.reduceAdd, Int.reduceMul, Bool.not_true, Bool.not_false, e6]
  have g6 : evS (P (n + 29)) 1000 lr6 [some (.ref p), some t.d, some (.str (bs s)), some u.d, none, some (.str t.py.shown), some (.str (bs (fl t s)))] cs6 = some (.nx [some (.ref p), some t.d, some (.str (bs s)), some u.d, some (.bl (decide (u.sz ≤ 9))), some (.str t.py.shown), some (.str (bs (fl t s)))] cs6) := by
    simp only [lr6, evSs, evS, evE, evT, evEs, evAnd, evOr, evTA, evTO, evG, evGs, evO, evC, evL, evI, cmpD, opD, augD, idxD, slcD, mtOk, biD, truD, seqOf, lstOf, srcL, List.map_cons, List.map_nil, List.cons_append, List.nil_append, List.getElem?_cons_zero, List.getElem?_cons_succ, List.getElem?_nil, List.set_cons_zero, List.set_cons_succ, List.length_cons, List.length_nil, List.replicate_succ, List.replicate_zero, Nat.reduceSub, Nat.reduceAdd, Bool.false_eq_true, if_false, if_true, le0, le1, le2, le3, le4, le5, Int.reduceAdd, Int.reduceMul, Bool.not_true, Bool.not_false, u2 cs6 h6.1, le_lt]
  have g7 : evT (P (n + 29)) lrc2 [some (.ref p), some t.d, some (.str (bs s)), some u.d, some (.bl (decide (u.sz ≤ 9))), some (.str t.py.shown), some (.str (bs (fl t s)))] cs6 = some (false, cs6) := by
    by_cases h9 : u.sz ≤ 9
    · have v1 := c_flowof (N := n + 29) (t := u) (s := s) (by omega) h9 (by omega) (hp2 u h9) cs6 h6.1
      have v2 := c_lflow u s (n + 29) (by omega) (by omega) (hp2 u h9) cs6 h6.1
      simp only [lrc2, evSs, evS, evE, evT, evEs, evAnd, evOr, evTA, evTO, evG, evGs, evO, evC, evL, evI, cmpD, opD, augD, idxD, slcD, mtOk, biD, truD, seqOf, lstOf, srcL, List.map_cons, List.map_nil, List.cons_append, List.nil_append, List.getElem?_cons_zero, List.getElem?_cons_succ, List.getElem?_nil, List.set_cons_zero, List.set_cons_succ, List.length_cons, List.length_nil, List.replicate_succ, List.replicate_zero, Nat.reduceSub, Nat.reduceAdd, Bool.false_eq_true, if_false, if_true, le0, le1, le2, le3, le4, le5, Int.reduceAdd, Int.reduceMul, Bool.not_true, Bool.not_false, u1 cs6 h6.1, decide_eq_true h9, eq_bb, v1, v2, eqB_ss, beq_self_eq_true]
    · simp only [lrc2, evSs, evS, evE, evT, evEs, evAnd, evOr, evTA, evTO, evG, evGs, evO, evC, evL, evI, cmpD, opD, augD, idxD, slcD, mtOk, biD, truD, seqOf, lstOf, srcL, List.map_cons, List.map_nil, List.cons_append, List.nil_append, List.getElem?_cons_zero, List.getElem?_cons_succ, List.getElem?_nil, List.set_cons_zero, List.set_cons_succ, List.length_cons, List.length_nil, List.replicate_succ, List.replicate_zero, Nat.reduceSub, Nat.reduceAdd, Bool.false_eq_true, if_false, if_true, le0, le1, le2, le3, le4, le5, Int.reduceAdd, Int.reduceMul, Bool.not_true, Bool.not_false, u1 cs6 h6.1, decide_eq_false h9, eq_bb]
  have hc1 : s.length ≤ cap := by omega
  have g8 : evT (P (n + 29)) lrc3 [some (.ref p), some t.d, some (.str (bs s)), some u.d, some (.bl (decide (u.sz ≤ 9))), some (.str t.py.shown), some (.str (bs (fl t s)))] cs6 = some (false, cs6) := by
    simp only [lrc3, evSs, evS, evE, evT, evEs, evAnd, evOr, evTA, evTO, evG, evGs, evO, evC, evL, evI, cmpD, opD, augD, idxD, slcD, mtOk, biD, truD, seqOf, lstOf, srcL, List.map_cons, List.map_nil, List.cons_append, List.nil_append, List.getElem?_cons_zero, List.getElem?_cons_succ, List.getElem?_nil, List.set_cons_zero, List.set_cons_succ, List.length_cons, List.length_nil, List.replicate_succ, List.replicate_zero, Nat.reduceSub, Nat.reduceAdd, Bool.false_eq_true, if_false, if_true, le0, le1, le2, le3, le4, le5, Int.reduceAdd, Int.reduceMul, Bool.not_true, Bool.not_false, bs_len, if_pos hc1, cut6, hb, se, fn, eqB_ss, beq_self_eq_true]
  have g9 : evS (P (n + 29)) 1000 lr9 [some (.ref p), some t.d, some (.str (bs s)), some u.d, some (.bl (decide (u.sz ≤ 9))), some (.str t.py.shown), some (.str (bs (fl t s)))] cs6 = some (.rt (.bl true) cs6) := by
    simp only [lr9, evSs, evS, evE, evT, evEs, evAnd, evOr, evTA, evTO, evG, evGs, evO, evC, evL, evI, cmpD, opD, augD, idxD, slcD, mtOk, biD, truD, seqOf, lstOf, srcL, List.map_cons, List.map_nil, List.cons_append, List.nil_append, List.getElem?_cons_zero, List.getElem?_cons_succ, List.getElem?_nil, List.set_cons_zero, List.set_cons_succ, List.length_cons, List.length_nil, List.replicate_succ, List.replicate_zero, Nat.reduceSub, Nat.reduceAdd, Bool.false_eq_true, if_false, if_true, le0, le1, le2, le3, le4, le5, Int.reduceAdd, Int.reduceMul, Bool.not_true, Bool.not_false, f1 cs6 h6.1, eqB_ss, beq_self_eq_true, py_d, if_pos hsh]
  refine ⟨cs6, ?_, h6⟩
  rw [P_step (d := (td_law_right 0).fd) rfl rfl, lr_body]
  have gg : evSs (P (n + 29)) 1000 (.cons lr0 (.cons lr1 (.cons lr2 (.cons lr3 (.cons lr4 (.cons lr5 (.cons lr6 (.cons lr7 (.cons lr8 (.cons lr9 .nil)))))))))) [some (.ref p), none, none, none, none, none, none] cs = some (.rt (.bl true) cs6) := by
    rw [lr0_eq, ss_ifs_f e1, ss_nx g1, ss_nx g2, ss_nx g3, lr4_eq, ss_ifs_f g4, ss_nx g5, ss_nx g6, lr7_eq, ss_ifs_f g7, lr8_eq, ss_ifs_f g8, ss_rt g9]
  simp only [td_law_right, List.map_cons, List.map_nil, List.length_cons, List.length_nil, List.cons_append, List.nil_append, List.replicate_succ, List.replicate_zero, Nat.reduceSub, Nat.reduceAdd, gg]
  exact pfin h6 h.2.1 (fr_bl _)
end Mc
set_option Elab.async false
set_option linter.all false
set_option maxRecDepth 100000
set_option maxHeartbeats 2000000
namespace Mc
open PySem PySem.Spec PyProof.Rows L2
def lp0 : S := (.asg (.nm 2) (.op .Add (.op .Mult (.cst (.int 233)) (.var 1)) (.cst (.int 81))))
def lp1 : S := (.ifs (.cmp .Lt (.var 1) (.bi .len (.cons (.var 0) .nil))) (.cons (.asg (.nm 2) (.bi .abs (.cons (.idx (.var 0) (.var 1)) .nil))) .nil) .nil)
def lp2 : S := (.ret (.new true (.disp (.cons (.bi .max2 (.cons (.cst (.int 0)) (.cons (.op .Sub (.var 2) (.op .Pow (.cst (.int 10)) (.cst (.int 18)))) .nil))) (.cons (.op .Add (.op .Mod (.bi .int (.cons (.op .Add (.op .Add (.op .Mult (.op .Mod (.bi .int (.cons (.var 2) .nil)) (.cst (.int 2147483563))) (.cst (.int 48271))) (.op .Mult (.cst (.int 6043)) (.var 1))) (.cst (.int 171))) .nil)) (.cst (.int 2147483543))) (.cst (.int 1))) .nil)))))
theorem lp_body : (td_law_pot 0).fd.body = (.cons lp0 (.cons lp1 (.cons lp2 .nil))) := rfl

theorem m233 (k : Int) : ((-(2 ^ 64) : Int) < 233 ∧ (233 : Int) < 2 ^ 64) ∨ (-(2 ^ 64) : Int) < k ∧ k < 2 ^ 64 := .inl ⟨by decide, by decide⟩
theorem m6043 (k : Int) : ((-(2 ^ 64) : Int) < 6043 ∧ (6043 : Int) < 2 ^ 64) ∨ (-(2 ^ 64) : Int) < k ∧ k < 2 ^ 64 := .inl ⟨by decide, by decide⟩
theorem m48271 (k : Int) : ((-(2 ^ 64) : Int) < k ∧ k < 2 ^ 64) ∨ (-(2 ^ 64) : Int) < 48271 ∧ (48271 : Int) < 2 ^ 64 := .inr ⟨by decide, by decide⟩
theorem z1 : (2147483563 : Int) ≠ 0 := by decide
theorem z2 : (2147483543 : Int) ≠ 0 := by decide
theorem pw18 : (0 : Int) ≤ 18 ∧ (18 : Int) ≤ 1000000 ∧ (10 : Int).natAbs < 2 ^ 64 := by decide
theorem e_pot2 (φ : Phi) (x : Int) (k : Int) (s : Option D) (cs : Cells) : ∃ a b : Int, evS φ 1000 lp2 [s, some (.int k), some (.int x)] cs = some (.rt (.ref cs.length) (cs ++ [.lst [.int a, .int b]])) := by
  simp only [lp2, evSs, evS, evE, evT, evEs, evAnd, evOr, evTA, evTO, evG, evGs, evO, evC, evL, evI, cmpD, opD, augD, idxD, slcD, mtOk, biD, truD, seqOf, lstOf, srcL, List.map_cons, List.map_nil, List.cons_append, List.nil_append, List.getElem?_cons_zero, List.getElem?_cons_succ, List.getElem?_nil, List.set_cons_zero, List.set_cons_succ, List.length_cons, List.length_nil, List.replicate_succ, List.replicate_zero, Nat.reduceSub, Nat.reduceAdd, Bool.false_eq_true, if_false, if_true, le0, le1, le2, le3, le4, le5, Int.reduceAdd, Int.reduceMul, Bool.not_true, Bool.not_false, if_pos pw18, if_pos z1, if_pos z2, if_pos (m48271 _), if_pos (m6043 _)]
  exact ⟨_, _, rfl⟩
theorem c_pot (n : Nat) (ns : List Int) (k : Nat) (cs : Cells) : ∃ a b : Int, P (n + 1) 15 [.scr (ns.map .int), .int (k : Int)] cs = some (.ref cs.length, cs ++ [.lst [.int a, .int b]]) := by
  have g0 : evS (P n) 1000 lp0 [some (.scr (ns.map .int)), some (.int (k : Int)), none] cs = some (.nx [some (.scr (ns.map .int)), some (.int (k : Int)), some (.int (233 * (k : Int) + 81))] cs) := by
    simp only [lp0, evSs, evS, evE, evT, evEs, evAnd, evOr, evTA, evTO, evG, evGs, evO, evC, evL, evI, cmpD, opD, augD, idxD, slcD, mtOk, biD, truD, seqOf, lstOf, srcL, List.map_cons, List.map_nil, List.cons_append, List.nil_append, List.getElem?_cons_zero, List.getElem?_cons_succ, List.getElem?_nil, List.set_cons_zero, List.set_cons_succ, List.length_cons, List.length_nil, List.replicate_succ, List.replicate_zero, Nat.reduceSub, Nat.reduceAdd, Bool.false_eq_true, if_false, if_true, le0, le1, le2, le3, le4, le5, Int.reduceAdd, Int.reduceMul, Bool.not_true, Bool.not_false, if_pos (m233 _)]
  have g1 : ∃ x : Int, evS (P n) 1000 lp1 [some (.scr (ns.map .int)), some (.int (k : Int)), some (.int (233 * (k : Int) + 81))] cs = some (.nx [some (.scr (ns.map .int)), some (.int (k : Int)), some (.int x)] cs) := by
    by_cases h : (k : Int) < (((ns.map D.int).length : Nat) : Int)
    · obtain ⟨d, hm, hd⟩ := atI_in (xs := ns.map D.int) (r := (k : Int)) (by omega) h
      obtain ⟨i, _, rfl⟩ := List.mem_map.mp hm
      exact ⟨if i < 0 then -i else i, by simp only [lp1, evSs, evS, evE, evT, evEs, evAnd, evOr, evTA, evTO, evG, evGs, evO, evC, evL, evI, cmpD, opD, augD, idxD, slcD, mtOk, biD, truD, seqOf, lstOf, srcL, List.map_cons, List.map_nil, List.cons_append, List.nil_append, List.getElem?_cons_zero, List.getElem?_cons_succ, List.getElem?_nil, List.set_cons_zero, List.set_cons_succ, List.length_cons, List.length_nil, List.replicate_succ, List.replicate_zero, Nat.reduceSub, Nat.reduceAdd, Bool.false_eq_true, if_false, if_true, le0, le1, le2, le3, le4, le5, Int.reduceAdd, Int.reduceMul, Bool.not_true, Bool.not_false, Option.map_some, decide_eq_true h, hd]⟩
    · exact ⟨233 * (k : Int) + 81, by simp only [lp1, evSs, evS, evE, evT, evEs, evAnd, evOr, evTA, evTO, evG, evGs, evO, evC, evL, evI, cmpD, opD, augD, idxD, slcD, mtOk, biD, truD, seqOf, lstOf, srcL, List.map_cons, List.map_nil, List.cons_append, List.nil_append, List.getElem?_cons_zero, List.getElem?_cons_succ, List.getElem?_nil, List.set_cons_zero, List.set_cons_succ, List.length_cons, List.length_nil, List.replicate_succ, List.replicate_zero, Nat.reduceSub, Nat.reduceAdd, Bool.false_eq_true, if_false, if_true, le0, le1, le2, le3, le4, le5, Int.reduceAdd, Int.reduceMul, Bool.not_true, Bool.not_false, Option.map_some, decide_eq_false h]⟩
  obtain ⟨x, g1⟩ := g1
  obtain ⟨a, b, g2⟩ := e_pot2 (P n) x (k : Int) (some (.scr (ns.map .int))) cs
  refine ⟨a, b, ?_⟩
  rw [P_step (d := (td_law_pot 0).fd) rfl rfl, lp_body]
  have gg : evSs (P n) 1000 (.cons lp0 (.cons lp1 (.cons lp2 .nil))) [some (.scr (ns.map .int)), some (.int (k : Int)), none] cs = some (.rt (.ref cs.length) (cs ++ [.lst [.int a, .int b]])) := by
    rw [ss_nx g0, ss_nx g1, ss_rt g2]
  simp only [td_law_pot, List.map_cons, List.map_nil, List.length_cons, List.length_nil, List.cons_append, List.nil_append, List.replicate_succ, List.replicate_zero, Nat.reduceSub, Nat.reduceAdd, gg]
  unfold fin
  rw [if_pos rfl]
def lwC : L := (.comp [("_law_k", 1)] (.nm 1) (.rng1 (.bi .max2 (.cons (.cst (.int 1)) (.cons (.bi .min2 (.cons (.cst (.int 2)) (.cons (.bi .len (.cons (.var 0) .nil)) .nil))) .nil)))) .no (.call 26 (.cons (.call 15 (.cons (.var 0) (.cons (.var 1) .nil))) .nil)))
def lwI : I := (.rng1 (.bi .max2 (.cons (.cst (.int 1)) (.cons (.bi .min2 (.cons (.cst (.int 2)) (.cons (.bi .len (.cons (.var 0) .nil)) .nil))) .nil))))
theorem lw_body : (td_law 0).fd.body = (.cons (.ret (.bi .all (.cons (.new false lwC) .nil))) .nil) := rfl
theorem wp1 (a b : Option D) : wipeE [a, b] [1] = [a, none] := rfl
theorem tg1 : tgtIn [1] (.nm 1) = true := rfl
theorem bls_rep : ∀ k : Nat, blsOf (List.replicate k (.bl true)) = some (List.replicate k true)
  | 0 => rfl
  | k + 1 => by simp only [List.replicate_succ, blsOf, bls_rep k]
theorem e_law (n : Nat) (ns : List Int) : ∃ (k : Nat) (cs' : Cells), evL (P (n + 30)) lwC [some (.scr (ns.map .int)), none] [] = some (List.replicate k (.bl true), cs') := by
  obtain ⟨r, hr, e0⟩ : ∃ r : Int, (r = 1 ∨ r = 2) ∧ evE (P (n + 30)) (.bi .max2 (.cons (.cst (.int 1)) (.cons (.bi .min2 (.cons (.cst (.int 2)) (.cons (.bi .len (.cons (.var 0) .nil)) .nil))) .nil))) [some (.scr (ns.map .int)), none] [] = some (.int r, []) := by
    refine ⟨(if (if ((ns.map D.int).length : Int) < 2 then ((ns.map D.int).length : Int) else 2) > 1 then (if ((ns.map D.int).length : Int) < 2 then ((ns.map D.int).length : Int) else 2) else 1), ?_, by simp only [evSs, evS, evE, evT, evEs, evAnd, evOr, evTA, evTO, evG, evGs, evO, evC, evL, evI, cmpD, opD, augD, idxD, slcD, mtOk, biD, truD, seqOf, lstOf, srcL, List.map_cons, List.map_nil, List.cons_append, List.nil_append, List.getElem?_cons_zero, List.getElem?_cons_succ, List.getElem?_nil, List.set_cons_zero, List.set_cons_succ, List.length_cons, List.length_nil, List.replicate_succ, List.replicate_zero, Nat.reduceSub, Nat.reduceAdd, Bool.false_eq_true, if_false, if_true, le0, le1, le2, le3, le4, le5, Int.reduceAdd, Int.reduceMul, Bool.not_true, Bool.not_false, Option.map_some]⟩
    have h0 : (0 : Int) ≤ ((ns.map D.int).length : Int) := Int.natCast_nonneg _
    generalize ((ns.map D.int).length : Int) = L at h0
    by_cases h : L < 2
    · rw [if_pos h]
      split <;> omega
    · rw [if_neg h]
      exact .inr rfl
  have hr2 : ((-(2 ^ 62) : Int) ≤ r ∧ r < 2 ^ 62) := ⟨by omega, by omega⟩
  have hI : evI (P (n + 30)) lwI [some (.scr (ns.map .int)), none] [] = some (.fz (rngD 0 r.toNat), []) := by
    unfold lwI
    rw [evI, e0]
    dsimp only
    rw [if_pos hr2]
  have hcap : (rngD 0 r.toNat).length ≤ cap := by rw [rng_len]; have := cap8; omega
  obtain ⟨acc, cs', g1, hz, rfl⟩ := comp_inv (src := .fz (rngD 0 r.toNat)) (ds := rngD 0 r.toNat)
    (f := fun d cs2 => match P (n + 30) 15 [.scr (ns.map .int), d] cs2 with
      | some (x, cs3) => (match P (n + 30) 26 [x] cs3 with | some (y, cs5) => some (some y, cs5) | none => none)
      | none => none)
    (fun i acc cs => Fz cs ∧ acc = List.replicate i (.bl true)) (fun i acc cs _ => rfl)
    (fun i d acc cs e hI => by
      obtain ⟨hz, rfl⟩ := hI
      have hi : i < r.toNat := by
        have := (List.getElem?_eq_some_iff.mp e).1
        rwa [rng_len] at this
      have e2 : d = .int (i : Int) := by
        unfold rngD at e
        rw [List.getElem?_map, List.getElem?_range hi, Option.map_some] at e
        injection e with e
        rw [← e, Int.zero_add]
      subst e2
      obtain ⟨a, b, p1⟩ := c_pot (n + 29) ns i cs
      obtain ⟨cs1, p2, p3⟩ := c_right (p := cs.length) (m := cs.length + 1) n (cs ++ [.lst [.int a, .int b]])
        ⟨fz_app hz (frl_cons (fr_int _) (frl_cons (fr_int _) frl_nil)), by simp, by omega, a, b, cell_at1 _ _⟩
      refine ⟨.bl true, cs1, ?_, p3.1, by rw [List.replicate_succ']⟩
      have p1' : P (n + 30) 15 [.scr (ns.map .int), .int (i : Int)] cs = some (.ref cs.length, cs ++ [.lst [.int a, .int b]]) := p1
      rw [p1']
      dsimp only
      rw [p2])
    hcap ((rngD 0 r.toNat).length + 1) 0 [] [] (by omega) (Nat.zero_le _) (Nat.zero_le _) ⟨fz_nil, rfl⟩
  refine ⟨(rngD 0 r.toNat).length, cs', ?_⟩
  rw [← g1]
  have hE : evL (P (n + 30)) lwC [some (.scr (ns.map .int)), none] [] = evL (P (n + 30)) (.comp [("_law_k", 1)] (.nm 1) lwI .no (.call 26 (.cons (.call 15 (.cons (.var 0) (.cons (.var 1) .nil))) .nil))) [some (.scr (ns.map .int)), none] [] := rfl
  rw [hE, evL, hI]
  dsimp only
  congr 1
  funext d cs2
  simp only [evSs, evS, evE, evT, evEs, evAnd, evOr, evTA, evTO, evG, evGs, evO, evC, evL, evI, cmpD, opD, augD, idxD, slcD, mtOk, biD, truD, seqOf, lstOf, srcL, List.map_cons, List.map_nil, List.cons_append, List.nil_append, List.getElem?_cons_zero, List.getElem?_cons_succ, List.getElem?_nil, List.set_cons_zero, List.set_cons_succ, List.length_cons, List.length_nil, List.replicate_succ, List.replicate_zero, Nat.reduceSub, Nat.reduceAdd, Bool.false_eq_true, if_false, if_true, le0, le1, le2, le3, le4, le5, Int.reduceAdd, Int.reduceMul, Bool.not_true, Bool.not_false, wp1, tg1]
  cases P (n + 30) 15 [.scr (ns.map .int), d] cs2 with
  | none => rfl
  | some p => 
    obtain ⟨x, cs3⟩ := p
    rfl
theorem c_law (n : Nat) (ns : List Int) : P (n + 31) 27 [.scr (ns.map .int)] [] = some (.bl true, []) := by
  obtain ⟨k, cs', e⟩ := e_law n ns
  have ha : (List.replicate k true).all id = true := by simp
  rw [P_step (d := (td_law 0).fd) rfl rfl, lw_body]
  simp only [td_law, evSs, evS, evE, evT, evEs, evAnd, evOr, evTA, evTO, evG, evGs, evO, evC, evL, evI, cmpD, opD, augD, idxD, slcD, mtOk, biD, truD, seqOf, lstOf, srcL, List.map_cons, List.map_nil, List.cons_append, List.nil_append, List.getElem?_cons_zero, List.getElem?_cons_succ, List.getElem?_nil, List.set_cons_zero, List.set_cons_succ, List.length_cons, List.length_nil, List.replicate_succ, List.replicate_zero, Nat.reduceSub, Nat.reduceAdd, Bool.false_eq_true, if_false, if_true, le0, le1, le2, le3, le4, le5, Int.reduceAdd, Int.reduceMul, Bool.not_true, Bool.not_false, e, bls_rep, ha]
  exact fin_at (cs := []) (fr_bl _) fz_nil
end Mc
set_option Elab.async false
set_option linter.all false
set_option maxRecDepth 100000
set_option maxHeartbeats 0
namespace Mc
open PySem PySem.Spec PyProof.Rows L2
section
variable {w : World} {K : PySem.W.Frag} {h : Heap} {mg : Str → Option Value}
abbrev AtOk (K : PySem.W.Frag) (mg : Str → Option Value) (d : Td) : Prop := Td.ok (tx (He.ga K)).tb d = true ∧ FnScope d.N d.ps (defScope d.st) ∧ (∃ fd, FunX K d.name d.qual d.st d.addr fd ∧ Binds K fd d.ps []) ∧ (d.top = true → mg d.name = some (.ref d.addr))
theorem at0 (c : He.SaysT faL fnL tsL w K) (X : K.In h) (G : h.Ns mainGlobals mg) : AtOk K mg (td_is_sign (He.ga K "is_sign")) := by
  refine ⟨ok0 (He.ga K), sc0, ?_, fun _ => He.glo_ok X G (c.d.fact 0 (f := .glo "is_sign") rfl)⟩
  obtain ⟨fd, F⟩ := c.d.def_ 0 (d := dd0) rfl
  exact ⟨fd, FunX_of F, FunD.bindsN F fun _ _ _ _ _ _ us hl => match us, hl with | [_], _ => rfl⟩
theorem at1 (c : He.SaysT faL fnL tsL w K) (X : K.In h) (G : h.Ns mainGlobals mg) : AtOk K mg (td_is_text (He.ga K "is_text")) := by
  refine ⟨ok1 (He.ga K), sc1, ?_, fun _ => He.glo_ok X G (c.d.fact 1 (f := .glo "is_text") rfl)⟩
  obtain ⟨fd, F⟩ := c.d.def_ 1 (d := dd1) rfl
  exact ⟨fd, FunX_of F, FunD.bindsN F fun _ _ _ _ _ _ us hl => match us, hl with | [_], _ => rfl⟩
theorem at2 (c : He.SaysT faL fnL tsL w K) (X : K.In h) (G : h.Ns mainGlobals mg) : AtOk K mg (td_is_text_up_to (He.ga K "is_text_up_to")) := by
  refine ⟨ok2 (He.ga K), sc2, ?_, fun _ => He.glo_ok X G (c.d.fact 2 (f := .glo "is_text_up_to") rfl)⟩
  obtain ⟨fd, F⟩ := c.d.def_ 2 (d := dd2) rfl
  exact ⟨fd, FunX_of F, FunD.bindsN F fun _ _ _ _ _ _ us hl => match us, hl with | [_, _], _ => rfl⟩
theorem at3 (c : He.SaysT faL fnL tsL w K) (X : K.In h) (G : h.Ns mainGlobals mg) : AtOk K mg (td_check_stream (He.ga K "check_stream")) := by
  refine ⟨ok3 (He.ga K), sc3, ?_, fun _ => He.glo_ok X G (c.d.fact 3 (f := .glo "check_stream") rfl)⟩
  obtain ⟨fd, F⟩ := c.d.def_ 3 (d := dd3) rfl
  exact ⟨fd, FunX_of F, FunD.bindsN F fun _ _ _ _ _ _ us hl => match us, hl with | [_], _ => rfl⟩
theorem at4 (c : He.SaysT faL fnL tsL w K) (X : K.In h) (G : h.Ns mainGlobals mg) : AtOk K mg (td_is_term (He.ga K "is_term")) := by
  refine ⟨ok4 (He.ga K), sc4, ?_, fun _ => He.glo_ok X G (c.d.fact 4 (f := .glo "is_term") rfl)⟩
  obtain ⟨fd, F⟩ := c.d.def_ 4 (d := dd4) rfl
  exact ⟨fd, FunX_of F, FunD.bindsN F fun _ _ _ _ _ _ us hl => match us, hl with | [_], _ => rfl⟩
theorem at5 (c : He.SaysT faL fnL tsL w K) (X : K.In h) (G : h.Ns mainGlobals mg) : AtOk K mg (td_check_term (He.ga K "check_term")) := by
  refine ⟨ok5 (He.ga K), sc5, ?_, fun _ => He.glo_ok X G (c.d.fact 5 (f := .glo "check_term") rfl)⟩
  obtain ⟨fd, F⟩ := c.d.def_ 5 (d := dd5) rfl
  exact ⟨fd, FunX_of F, FunD.bindsN F fun _ _ _ _ _ _ us hl => match us, hl with | [_], _ => rfl⟩
theorem at6 (c : He.SaysT faL fnL tsL w K) (X : K.In h) (G : h.Ns mainGlobals mg) : AtOk K mg (td_word_of (He.ga K "word_of")) := by
  refine ⟨ok6 (He.ga K), sc6, ?_, fun _ => He.glo_ok X G (c.d.fact 6 (f := .glo "word_of") rfl)⟩
  obtain ⟨fd, F⟩ := c.d.def_ 6 (d := dd6) rfl
  exact ⟨fd, FunX_of F, FunD.bindsN F fun _ _ _ _ _ _ us hl => match us, hl with | [_], _ => rfl⟩
theorem at7 (c : He.SaysT faL fnL tsL w K) (X : K.In h) (G : h.Ns mainGlobals mg) : AtOk K mg (td_parts_of (He.ga K "parts_of")) := by
  refine ⟨ok7 (He.ga K), sc7, ?_, fun _ => He.glo_ok X G (c.d.fact 7 (f := .glo "parts_of") rfl)⟩
  obtain ⟨fd, F⟩ := c.d.def_ 7 (d := dd7) rfl
  exact ⟨fd, FunX_of F, FunD.bindsN F fun _ _ _ _ _ _ us hl => match us, hl with | [_], _ => rfl⟩
theorem at8 (c : He.SaysT faL fnL tsL w K) (X : K.In h) (G : h.Ns mainGlobals mg) : AtOk K mg (td_flow_of (He.ga K "flow_of")) := by
  refine ⟨ok8 (He.ga K), sc8, ?_, fun _ => He.glo_ok X G (c.d.fact 8 (f := .glo "flow_of") rfl)⟩
  obtain ⟨fd, F⟩ := c.d.def_ 8 (d := dd8) rfl
  exact ⟨fd, FunX_of F, FunD.bindsN F fun _ _ _ _ _ _ us hl => match us, hl with | [_, _], _ => rfl⟩
theorem at9 (c : He.SaysT faL fnL tsL w K) (X : K.In h) (G : h.Ns mainGlobals mg) : AtOk K mg (td_is_node (He.ga K "_is_node")) := by
  refine ⟨ok9 (He.ga K), sc9, ?_, fun _ => He.glo_ok X G (c.d.fact 9 (f := .glo "_is_node") rfl)⟩
  obtain ⟨fd, F⟩ := c.d.def_ 9 (d := dd9) rfl
  exact ⟨fd, FunX_of F, FunD.bindsN F fun _ _ _ _ _ _ us hl => match us, hl with | [_], _ => rfl⟩
theorem at10 (c : He.SaysT faL fnL tsL w K) (X : K.In h) (G : h.Ns mainGlobals mg) : AtOk K mg (td_flow_at (He.ga K "_flow_at")) := by
  refine ⟨ok10 (He.ga K), sc10, ?_, fun _ => He.glo_ok X G (c.d.fact 10 (f := .glo "_flow_at") rfl)⟩
  obtain ⟨fd, F⟩ := c.d.def_ 10 (d := dd10) rfl
  exact ⟨fd, FunX_of F, FunD.bindsN F fun _ _ _ _ _ _ us hl => match us, hl with | [_, _], _ => rfl⟩
theorem at11 (c : He.SaysT faL fnL tsL w K) (X : K.In h) (G : h.Ns mainGlobals mg) : AtOk K mg (td_given (He.ga K "_given")) := by
  refine ⟨ok11 (He.ga K), sc11, ?_, fun _ => He.glo_ok X G (c.d.fact 11 (f := .glo "_given") rfl)⟩
  obtain ⟨fd, F⟩ := c.d.def_ 11 (d := dd11) rfl
  exact ⟨fd, FunX_of F, FunD.bindsN F fun _ _ _ _ _ _ us hl => match us, hl with | [_, _], _ => rfl⟩
theorem at12 (c : He.SaysT faL fnL tsL w K) (X : K.In h) (G : h.Ns mainGlobals mg) : AtOk K mg (td_given_of_one (He.ga K "_given_of_one")) := by
  refine ⟨ok12 (He.ga K), sc12, ?_, fun _ => He.glo_ok X G (c.d.fact 12 (f := .glo "_given_of_one") rfl)⟩
  obtain ⟨fd, F⟩ := c.d.def_ 12 (d := dd12) rfl
  exact ⟨fd, FunX_of F, FunD.bindsN F fun _ _ _ _ _ _ us hl => match us, hl with | [_, _], _ => rfl⟩
theorem at13 (c : He.SaysT faL fnL tsL w K) (X : K.In h) (G : h.Ns mainGlobals mg) : AtOk K mg (td_counted (He.ga K "_counted")) := by
  refine ⟨ok13 (He.ga K), sc13, ?_, fun _ => He.glo_ok X G (c.d.fact 13 (f := .glo "_counted") rfl)⟩
  obtain ⟨fd, F⟩ := c.d.def_ 13 (d := dd13) rfl
  exact ⟨fd, FunX_of F, FunD.bindsN F fun _ _ _ _ _ _ us hl => match us, hl with | [_], _ => rfl⟩
theorem at14 (c : He.SaysT faL fnL tsL w K) (X : K.In h) (G : h.Ns mainGlobals mg) : AtOk K mg (td_unlike (He.ga K "_unlike")) := by
  refine ⟨ok14 (He.ga K), sc14, ?_, fun _ => He.glo_ok X G (c.d.fact 14 (f := .glo "_unlike") rfl)⟩
  obtain ⟨fd, F⟩ := c.d.def_ 14 (d := dd14) rfl
  exact ⟨fd, FunX_of F, FunD.bindsN F fun _ _ _ _ _ _ us hl => match us, hl with | [_, _], _ => rfl⟩
theorem at15 (c : He.SaysT faL fnL tsL w K) (X : K.In h) (G : h.Ns mainGlobals mg) : AtOk K mg (td_law_pot (He.ga K "_law_pot")) := by
  refine ⟨ok15 (He.ga K), sc15, ?_, fun _ => He.glo_ok X G (c.d.fact 15 (f := .glo "_law_pot") rfl)⟩
  obtain ⟨fd, F⟩ := c.d.def_ 15 (d := dd15) rfl
  exact ⟨fd, FunX_of F, FunD.bindsN F fun _ _ _ _ _ _ us hl => match us, hl with | [_, _], _ => rfl⟩
theorem at16 (c : He.SaysT faL fnL tsL w K) (X : K.In h) (G : h.Ns mainGlobals mg) : AtOk K mg (td_law_draw (He.ga K "_law_draw")) := by
  refine ⟨ok16 (He.ga K), sc16, ?_, fun _ => He.glo_ok X G (c.d.fact 16 (f := .glo "_law_draw") rfl)⟩
  obtain ⟨fd, F⟩ := c.d.def_ 16 (d := dd16) rfl
  exact ⟨fd, FunX_of F, FunD.bindsN F fun _ _ _ _ _ _ us hl => match us, hl with | [_, _], _ => rfl⟩
theorem at17 (c : He.SaysT faL fnL tsL w K) (X : K.In h) (G : h.Ns mainGlobals mg) : AtOk K mg (td_law_pick (He.ga K "_law_pick")) := by
  refine ⟨ok17 (He.ga K), sc17, ?_, fun _ => He.glo_ok X G (c.d.fact 17 (f := .glo "_law_pick") rfl)⟩
  obtain ⟨fd, F⟩ := c.d.def_ 17 (d := dd17) rfl
  exact ⟨fd, FunX_of F, FunD.bindsN F fun _ _ _ _ _ _ us hl => match us, hl with | [_, _], _ => rfl⟩
theorem at18 (c : He.SaysT faL fnL tsL w K) (X : K.In h) (G : h.Ns mainGlobals mg) : AtOk K mg (td_law_term (He.ga K "_law_term")) := by
  refine ⟨ok18 (He.ga K), sc18, ?_, fun _ => He.glo_ok X G (c.d.fact 18 (f := .glo "_law_term") rfl)⟩
  obtain ⟨fd, F⟩ := c.d.def_ 18 (d := dd18) rfl
  exact ⟨fd, FunX_of F, FunD.bindsN F fun _ _ _ _ _ _ us hl => match us, hl with | [_, _], _ => rfl⟩
theorem at19 (c : He.SaysT faL fnL tsL w K) (X : K.In h) (G : h.Ns mainGlobals mg) : AtOk K mg (td_law_single (He.ga K "_law_single")) := by
  refine ⟨ok19 (He.ga K), sc19, ?_, fun _ => He.glo_ok X G (c.d.fact 19 (f := .glo "_law_single") rfl)⟩
  obtain ⟨fd, F⟩ := c.d.def_ 19 (d := dd19) rfl
  exact ⟨fd, FunX_of F, FunD.bindsN F fun _ _ _ _ _ _ us hl => match us, hl with | [_, _], _ => rfl⟩
theorem at20 (c : He.SaysT faL fnL tsL w K) (X : K.In h) (G : h.Ns mainGlobals mg) : AtOk K mg (td_law_flow (He.ga K "_law_flow")) := by
  refine ⟨ok20 (He.ga K), sc20, ?_, fun _ => He.glo_ok X G (c.d.fact 20 (f := .glo "_law_flow") rfl)⟩
  obtain ⟨fd, F⟩ := c.d.def_ 20 (d := dd20) rfl
  exact ⟨fd, FunX_of F, FunD.bindsN F fun _ _ _ _ _ _ us hl => match us, hl with | [_, _], _ => rfl⟩
theorem at21 (c : He.SaysT faL fnL tsL w K) (X : K.In h) (G : h.Ns mainGlobals mg) : AtOk K mg (td_law_stream (He.ga K "_law_stream")) := by
  refine ⟨ok21 (He.ga K), sc21, ?_, fun _ => He.glo_ok X G (c.d.fact 21 (f := .glo "_law_stream") rfl)⟩
  obtain ⟨fd, F⟩ := c.d.def_ 21 (d := dd21) rfl
  exact ⟨fd, FunX_of F, FunD.bindsN F fun _ _ _ _ _ _ us hl => match us, hl with | [_, _], _ => rfl⟩
theorem at22 (c : He.SaysT faL fnL tsL w K) (X : K.In h) (G : h.Ns mainGlobals mg) : AtOk K mg (td_law_nodes (He.ga K "_law_nodes")) := by
  refine ⟨ok22 (He.ga K), sc22, ?_, fun _ => He.glo_ok X G (c.d.fact 22 (f := .glo "_law_nodes") rfl)⟩
  obtain ⟨fd, F⟩ := c.d.def_ 22 (d := dd22) rfl
  exact ⟨fd, FunX_of F, FunD.bindsN F fun _ _ _ _ _ _ us hl => match us, hl with | [_], _ => rfl⟩
theorem at23 (c : He.SaysT faL fnL tsL w K) (X : K.In h) (G : h.Ns mainGlobals mg) : AtOk K mg (td_law_around (He.ga K "_law_around")) := by
  refine ⟨ok23 (He.ga K), sc23, ?_, fun _ => He.glo_ok X G (c.d.fact 23 (f := .glo "_law_around") rfl)⟩
  obtain ⟨fd, F⟩ := c.d.def_ 23 (d := dd23) rfl
  exact ⟨fd, FunX_of F, FunD.bindsN F fun _ _ _ _ _ _ us hl => match us, hl with | [_, _], _ => rfl⟩
theorem at24 (c : He.SaysT faL fnL tsL w K) (X : K.In h) (G : h.Ns mainGlobals mg) : AtOk K mg (td_law_begun_right (He.ga K "_law_begun_right")) := by
  refine ⟨ok24 (He.ga K), sc24, ?_, fun _ => He.glo_ok X G (c.d.fact 24 (f := .glo "_law_begun_right") rfl)⟩
  obtain ⟨fd, F⟩ := c.d.def_ 24 (d := dd24) rfl
  exact ⟨fd, FunX_of F, FunD.bindsN F fun _ _ _ _ _ _ us hl => match us, hl with | [_, _], _ => rfl⟩
theorem at25 (c : He.SaysT faL fnL tsL w K) (X : K.In h) (G : h.Ns mainGlobals mg) : AtOk K mg (td_law_long_right (He.ga K "_law_long_right")) := by
  refine ⟨ok25 (He.ga K), sc25, ?_, fun _ => He.glo_ok X G (c.d.fact 25 (f := .glo "_law_long_right") rfl)⟩
  obtain ⟨fd, F⟩ := c.d.def_ 25 (d := dd25) rfl
  exact ⟨fd, FunX_of F, FunD.bindsN F fun _ _ _ _ _ _ us hl => match us, hl with | [_], _ => rfl⟩
theorem at26 (c : He.SaysT faL fnL tsL w K) (X : K.In h) (G : h.Ns mainGlobals mg) : AtOk K mg (td_law_right (He.ga K "_law_right")) := by
  refine ⟨ok26 (He.ga K), sc26, ?_, fun _ => He.glo_ok X G (c.d.fact 26 (f := .glo "_law_right") rfl)⟩
  obtain ⟨fd, F⟩ := c.d.def_ 26 (d := dd26) rfl
  exact ⟨fd, FunX_of F, FunD.bindsN F fun _ _ _ _ _ _ us hl => match us, hl with | [_], _ => rfl⟩
theorem at27 (c : He.SaysT faL fnL tsL w K) (X : K.In h) (G : h.Ns mainGlobals mg) : AtOk K mg (td_law (He.ga K "law")) := by
  refine ⟨ok27 (He.ga K), sc27, ?_, fun _ => He.glo_ok X G (c.d.fact 27 (f := .glo "law") rfl)⟩
  obtain ⟨fd, F⟩ := c.d.def_ 27 (d := dd27) rfl
  exact ⟨fd, FunX_of F, FunD.bindsN F fun _ _ _ _ _ _ us hl => match us, hl with | [_], _ => rfl⟩
theorem at_all (c : He.SaysT faL fnL tsL w K) (X : K.In h) (G : h.Ns mainGlobals mg) : ∀ (i : Nat) (d : Td), (tx (He.ga K)).ts[i]? = some d → AtOk K mg d
  | 0, _, e => by cases e; exact at0 c X G
  | 1, _, e => by cases e; exact at1 c X G
  | 2, _, e => by cases e; exact at2 c X G
  | 3, _, e => by cases e; exact at3 c X G
  | 4, _, e => by cases e; exact at4 c X G
  | 5, _, e => by cases e; exact at5 c X G
  | 6, _, e => by cases e; exact at6 c X G
  | 7, _, e => by cases e; exact at7 c X G
  | 8, _, e => by cases e; exact at8 c X G
  | 9, _, e => by cases e; exact at9 c X G
  | 10, _, e => by cases e; exact at10 c X G
  | 11, _, e => by cases e; exact at11 c X G
  | 12, _, e => by cases e; exact at12 c X G
  | 13, _, e => by cases e; exact at13 c X G
  | 14, _, e => by cases e; exact at14 c X G
  | 15, _, e => by cases e; exact at15 c X G
  | 16, _, e => by cases e; exact at16 c X G
  | 17, _, e => by cases e; exact at17 c X G
  | 18, _, e => by cases e; exact at18 c X G
  | 19, _, e => by cases e; exact at19 c X G
  | 20, _, e => by cases e; exact at20 c X G
  | 21, _, e => by cases e; exact at21 c X G
  | 22, _, e => by cases e; exact at22 c X G
  | 23, _, e => by cases e; exact at23 c X G
  | 24, _, e => by cases e; exact at24 c X G
  | 25, _, e => by cases e; exact at25 c X G
  | 26, _, e => by cases e; exact at26 c X G
  | 27, _, e => by cases e; exact at27 c X G
  | n + 28, _, e => by
    have h2 := (List.getElem?_eq_some_iff.mp e).1
    have h3 : (tx (He.ga K)).ts.length = 28 := rfl
    rw [h3] at h2
    omega
theorem kb21 (c : He.SaysT faL fnL tsL w K) : ∃ fd, FunX K "flow_of" "flow_of" (topS 22) (He.ga K "flow_of") fd ∧ Binds K fd ["term", "stream"] [] ∧ KfOk K fd ["term", "stream"] ⟨8, 0, ["stream", "term"], [], [1, 0]⟩ := by
  obtain ⟨fd, F⟩ := c.d.def_ 8 (d := dd8) rfl
  refine ⟨fd, FunX_of F, FunD.bindsN F fun _ _ _ _ _ _ us hl => match us, hl with | [_, _], _ => rfl, rfl, [], .nil, fun s us ws _ h1 h2 => ?_⟩
  obtain ⟨oc, od, dV, kV, doc, pm, an, cdv, ct, osl, rfl, lk, hcd, hD, hK⟩ := F.ex
  rcases hD with ⟨_, rfl⟩ | ⟨e, _⟩
  · match us, ws, h1, h2 with
    | [], [a, b], _, _ => exact .of_eq rfl
  · exact absurd rfl e
theorem ts21 (c : He.SaysT faL fnL tsL w K) (hx : exB K = true) (X : K.In h) (G : h.Ns mainGlobals mg) : Ts w K mg (tx (He.ga K)) where
  at_ := at_all c X G
  gls := fun x d m => by
    have m' : (x, d) ∈ [(("MOST_SIGNS_checks" : Str), D.int 1000), ("_MOST_NODES", .int 9), ("MOST_SIGNS_terms", .int 8000), ("_TABLE_SIGNS", .int 4)] := m
    simp only [List.mem_cons, List.not_mem_nil, or_false, Prod.mk.injEq] at m'
    rcases m' with ⟨rfl, rfl⟩ | ⟨rfl, rfl⟩ | ⟨rfl, rfl⟩ | ⟨rfl, rfl⟩
    · obtain ⟨t, e⟩ := He.int_ok X G (c.d.fact 47 (f := .int "MOST_SIGNS_checks" 1000) rfl); exact ⟨_, .int 1000, e, ⟨t, rfl⟩, fun _ _ => dn_int.mpr rfl⟩
    · obtain ⟨t, e⟩ := He.int_ok X G (c.d.fact 48 (f := .int "_MOST_NODES" 9) rfl); exact ⟨_, .int 9, e, ⟨t, rfl⟩, fun _ _ => dn_int.mpr rfl⟩
    · obtain ⟨t, e⟩ := He.int_ok X G (c.d.fact 49 (f := .int "MOST_SIGNS_terms" 8000) rfl); exact ⟨_, .int 8000, e, ⟨t, rfl⟩, fun _ _ => dn_int.mpr rfl⟩
    · obtain ⟨t, e⟩ := He.int_ok X G (c.d.fact 50 (f := .int "_TABLE_SIGNS" 4) rfl); exact ⟨_, .int 4, e, ⟨t, rfl⟩, fun _ _ => dn_int.mpr rfl⟩
  flds := fun _ _ m => by cases m
  prps := fun _ _ _ m => by cases m
  mths := fun _ _ _ m => by cases m
  mks := fun _ _ _ m => by cases m
  kbs := fun kf m => by
    have m' : kf ∈ [(⟨8, 0, ["stream", "term"], [], [1, 0]⟩ : Kf)] := m
    rw [List.mem_singleton] at m'
    subst m'
    obtain ⟨fd, h1, h2, h3⟩ := kb21 c
    exact ⟨_, fd, rfl, h1, h2, h3⟩
  gds := fun x ks ds m => by
    have m' : (x, ks, ds) ∈ [(("_FORMS" : Str), ([("not", [0, 1]), ("late", [1, 1]), ("twice", [0, 1]), ("half", [0, 1]), ("change", [0, 1]), ("count", [0, 1]), ("by", [1, 2]), ("keep", [0, 2]), ("then", [0, 2])] : List (Str × List Int)).map (·.1), ([("not", [0, 1]), ("late", [1, 1]), ("twice", [0, 1]), ("half", [0, 1]), ("change", [0, 1]), ("count", [0, 1]), ("by", [1, 2]), ("keep", [0, 2]), ("then", [0, 2])] : List (Str × List Int)).map fun q => D.tup (q.2.map .int))] := m
    rw [List.mem_singleton] at m'
    obtain ⟨rfl, m2⟩ := Prod.mk.inj m'
    obtain ⟨rfl, rfl⟩ := Prod.mk.inj m2
    obtain ⟨es, n, Dk⟩ := c.tab 0 rfl
    have ek : He.dicW K (He.ga K "_FORMS") = some (He.keysIn w.params ["not", "late", "twice", "half", "change", "count", "by", "keep", "then"]) := by
      have e := congrArg (fun z : He.AlT => z.2) c
      exact (List.cons.inj e).1
    exact ⟨He.ga K "_FORMS", es, n, He.glo_ok X G (c.d.fact 51 (f := .glo "_FORMS") rfl), Dk, fun z d e => tabI_ok hx z d e, ns_keys ek⟩
  blt := fun x m => by
    simp only [List.mem_cons, List.not_mem_nil, or_false] at m
    rcases m with rfl | rfl | rfl | rfl | rfl | rfl | rfl | rfl | rfl | rfl | rfl | rfl | rfl | rfl | rfl | rfl | rfl | rfl | rfl
    · exact He.free_ok X G (c.d.fact 28 (f := .free "len") rfl)
    · exact He.free_ok X G (c.d.fact 29 (f := .free "abs") rfl)
    · exact He.free_ok X G (c.d.fact 30 (f := .free "max") rfl)
    · exact He.free_ok X G (c.d.fact 31 (f := .free "min") rfl)
    · exact He.free_ok X G (c.d.fact 32 (f := .free "int") rfl)
    · exact He.free_ok X G (c.d.fact 33 (f := .free "divmod") rfl)
    · exact He.free_ok X G (c.d.fact 34 (f := .free "tuple") rfl)
    · exact He.free_ok X G (c.d.fact 35 (f := .free "all") rfl)
    · exact He.free_ok X G (c.d.fact 36 (f := .free "any") rfl)
    · exact He.free_ok X G (c.d.fact 37 (f := .free "sum") rfl)
    · exact He.free_ok X G (c.d.fact 38 (f := .free "repr") rfl)
    · exact He.free_ok X G (c.d.fact 39 (f := .free "isinstance") rfl)
    · exact He.free_ok X G (c.d.fact 40 (f := .free "str") rfl)
    · exact He.free_ok X G (c.d.fact 41 (f := .free "list") rfl)
    · exact He.free_ok X G (c.d.fact 42 (f := .free "range") rfl)
    · exact He.free_ok X G (c.d.fact 43 (f := .free "enumerate") rfl)
    · exact He.free_ok X G (c.d.fact 44 (f := .free "zip") rfl)
    · exact He.free_ok X G (c.d.fact 45 (f := .free "bool") rfl)
    · exact He.free_ok X G (c.d.fact 46 (f := .free "dict") rfl)
end
theorem room62 : Room 62 callerA := ⟨rfl, by decide, by decide⟩
end Mc
open PySem PySem.W PySem.Calls PyProof.Rows Mc
theorem PySem.Challenge.cw_flowyard_k21_whole_flows_of_terms_holds : PySem.Challenge.rw_flowyard_k21_whole_flows_of_terms.Holds := by
  w_on; o_law
  refine HandSHeadRun.head_any (r := RR) (q := qV) (H := hookX) (ob := obX) (M := 4000) (loose := looseA ++ looseB) (d := HandSHeadRun.topDef RR.prog 42) (kwd := []) obX_eq
    (by kernel_rfl) (fun s => by kernel_rfl) runX (by kernel_rfl) (by kernel_rfl) (by kernel_rfl) (by rfl) (by first | assumption | decide +kernel) (by decide +kernel) ⟨rfl, rfl, rfl, rfl, rfl, by decide +kernel⟩ ?hw ?hc
  case hw => w_witness2
  case hc =>
    refine walkGE (l := PySem.Challenge.rw_flowyard_k21_whole_flows_of_terms) (n := _) (k := 62) (x := "_law_script") (CX := fun w => L2.CX (PySem.Challenge.rw_flowyard_k21_whole_flows_of_terms).prog w) rfl (by decide) (by kernel_rfl) room62 ?F fun _ _ _ _ _ z => quietX z
    intro w mg fa h Y G hmg0
    obtain ⟨K, KX, c, hx⟩ := Y
    have hmg : mg ("law" : PySem.Str) = some (.ref fa) := by
      have e : (HandSHeadRun.topDef RR.prog 42).name = ("law" : PySem.Str) := by kernel_rfl
      rw [← e]
      exact hmg0
    have hfa : fa = He.ga K "law" := by
      have e := hmg.symm.trans (He.glo_ok KX G (c.d.fact 27 (f := .glo "law") rfl))
      cases e; rfl
    subst hfa
    refine ⟨K, spI K (P 31) 27 1, KX, fun H a ns _ _ hS => start_ok (c_law 0 ns) hS, fun base KB GB => ?_⟩
    have FX := all_fns (P := (PySem.Challenge.rw_flowyard_k21_whole_flows_of_terms).prog) (base := base) (wh := 1000) (ts21 (w := w) c hx KX G) 31
    rw [tab_eq] at FX
    obtain ⟨⟨fd, F⟩, _⟩ := FX.fns 27 (td_law (He.ga K "law")).fi rfl
    exact ⟨fd, F.ok, F.bd⟩
