import PyProof.Rows.All
import Wide.All
import OpenK.AllK
import Wide.FinOn
import HandS.Base
import HandS.Call
import HandS.List
import HandS.Comp
import HandS.Ends
import HandS.Words
import HandS.WordsList
import HandS.Style
import HandS.ForExc
import HandS.ExcInit
import HandS.IsInst
import HandS.MakeKw
import KE.KExcLine
import KE.KExcIs
import HandS.ExcValue
import PySem.Challenge.RW_unfooled_k01_errors_and_what_they_keep
set_option Elab.async false
set_option maxRecDepth 100000
set_option maxHeartbeats 4000000
/-! The law's source of draws: the text by places, the data, the promises. -/
namespace My
open PySem L2
def top (i : Nat) : Stmt := PySem.Challenge.pw_unfooled_k01_errors_and_what_they_keep.main.body.getD i (.Pass ⟨0, 0, 0, 0⟩)
abbrev sDeal : Stmt := top 16
abbrev sDraw : Stmt := top 17
abbrev sPick : Stmt := top 18
abbrev sAny : Stmt := top 19

/-! ### heaps -/
/-- all stands as it was but what lies at x and y -/
def Kp (x y : Addr) (H H' : Hp) : Prop := ∀ b o, H b = some o → b ≠ x → b ≠ y → H' b = some o
theorem Kp.refl {x y : Addr} (H : Hp) : Kp x y H H := fun _ _ h _ _ => h
theorem Kp.trans {x y : Addr} {H H1 H2 : Hp} (a : Kp x y H H1) (b : Kp x y H1 H2) : Kp x y H H2 := fun c o h n m => b c o (a c o h n m) n m
theorem Kp.same {x y : Addr} {H H' : Hp} (a : Same H H') : Kp x y H H' := fun c o h _ _ => a c o h
theorem Kp.new {x y p : Addr} {o : HO} {H : Hp} (h : H p = none) : Kp x y H (upd H p o) := fun c u e _ _ => by rw [upd_ne (ne_of_none e h)]; exact e
theorem Kp.at1 {x y : Addr} {o : HO} {H : Hp} : Kp x y H (upd H x o) := fun c u e n _ => by rw [upd_ne n]; exact e
theorem Kp.at2 {x y : Addr} {o : HO} {H : Hp} : Kp x y H (upd H y o) := fun c u e _ n => by rw [upd_ne n]; exact e
theorem Same.new {p : Addr} {o : HO} {H : Hp} (h : H p = none) : Same H (upd H p o) := fun c u e => by rw [upd_ne (ne_of_none e h)]; exact e
theorem Kp.seqL {K : PySem.W.Frag} {x y a : Addr} {H H' : Hp} {xs : List V} (k : Kp x y H H') (h : SqL K H a xs) (nx : a ≠ x) (ny : a ≠ y) : SqL K H' a xs := by
  rcases h with (h | ⟨o, h⟩) | h
  · exact .inl (.inl (k _ _ h nx ny))
  · exact .inl (.inr ⟨o, k _ _ h nx ny⟩)
  · exact .inr h

/-! ### the source of draws -/
/-- at dl: the source of draws; at c: its great cells -/
def Deal (H : Hp) (dl c : Addr) : Prop := ∃ (ns : List Int) (s k : Int), H dl = some (.lst [.ref c, .int s, .int k]) ∧ H c = some (.lst (ns.map V.int)) ∧ ns.length ≤ 63
theorem Deal.keep {H H' : Hp} {dl c : Addr} (d : Deal H dl c) (s : Same H H') : Deal H' dl c := by
  obtain ⟨ns, a, k, h1, h2, h3⟩ := d
  exact ⟨ns, a, k, s _ _ h1, s _ _ h2, h3⟩
theorem Deal.ne {H : Hp} {dl c : Addr} (d : Deal H dl c) : dl ≠ c := by
  obtain ⟨ns, s, k, h1, h2, _⟩ := d
  intro e
  subst e
  rw [h1] at h2
  have z := HO.lst.inj (Option.some.inj h2)
  cases ns with
  | nil => cases z
  | cons n r => cases (List.cons.inj z).1
theorem dp_ints {K : PySem.W.Frag} {H : Hp} : ∀ ns : List Int, DpAll K H (ns.map V.int) (ns.map PyData.int)
  | [] => .nil
  | n :: r => .cons (.int n) (dp_ints r)

/-- _law_draw(deal, wide) -/
def spDraw : Sp := fun vs H Q _ => ∃ (dl c : Addr) (wd : Int), vs = [.ref dl, .int wd] ∧ 0 < wd ∧ wd < 1073741824 ∧ Deal H dl c ∧
  ∀ (r : Int) (H' : Hp), 0 ≤ r → r < wd → Deal H' dl c → Kp dl c H H' → Q (.int r) H'
/-- _law_pick(deal, some): some a list -/
def spPick (K : PySem.W.Frag) : Sp := fun vs H Q _ => ∃ (dl c l : Addr) (xs : List V), vs = [.ref dl, .ref l] ∧ SqL K H l xs ∧ l ≠ dl ∧ l ≠ c ∧ 0 < xs.length ∧ xs.length < 1000 ∧ Deal H dl c ∧
  ∀ (x : V) (H' : Hp), x ∈ xs → Deal H' dl c → Kp dl c H H' → Q x H'
/-- _law_any(deal, deep) -/
def spAny (n : Nat) : Sp := fun vs H Q _ => ∃ (dl c : Addr) (d : Int), vs = [.ref dl, .int d] ∧ 0 ≤ d ∧ d < (n : Int) ∧ Deal H dl c ∧
  ∀ (x : V) (H' : Hp), Deal H' dl c → Kp dl c H H' → Q x H'

/-- what comes behind a loop is shown first -/
theorem exit_first {c : TT} {tb : TS} {D : Ends} {σ : St} {H : Hp} (Ex : St → Hp → Prop) (hx : ∀ σ H, Ex σ H → D.nx σ H) (h : (∀ σ H, Ex σ H → D.nx σ H) → tWhile c tb D σ H) : tWhile c tb D σ H := h hx
theorem eqv_nil : PyData.eqv (.list (([] : List Int).map PyData.int)) (.list []) = true := rfl
theorem eqv_snoc : ∀ (ms : List Int) (z : Int), PyData.eqv (.list ((ms ++ [z]).map PyData.int)) (.list []) = false
  | [], _ => rfl
  | _ :: _, _ => rfl
theorem map_snoc (ms : List Int) (z : Int) : (ms ++ [z]).map V.int = ms.map V.int ++ [V.int z] := by simp
theorem snoc_last (xs : List V) (v : V) : (xs ++ [v])[(xs ++ [v]).length - 1]? = some v := by simp
theorem snoc_drop (xs : List V) (v : V) : (xs ++ [v]).dropLast = xs := by simp
theorem iteN {b : Bool} {A B : Prop} (h : b = false) (g : A) : if (!b) = true then A else B := by
  rw [h]
  exact g
theorem iteY {b : Bool} {A B : Prop} (h : b = true) (g : B) : if (!b) = true then A else B := by
  rw [h]
  exact g
theorem line63 {n : Nat} (h : n ≤ 63) : n < sizeLine := Nat.lt_of_le_of_lt h (by decide)

section
variable {P : Program} {w : World} {K : PySem.W.Frag} {mg : Str → Option Value} {base : Heap}
theorem scDraw : FnScope ["deal", "wide", "left"] ["deal", "wide"] (defScope sDraw) := ⟨rfl, rfl, rfl, by decide +kernel, rfl, by decide +kernel, by decide +kernel⟩
theorem ok_draw {f : Addr} {fd : FuncData} (F : Fun K "_law_draw" "_law_draw" sDraw f fd) (mi : mg "int" = none) : FnOk P w K mg base CX0 1 f fd ["deal", "wide"] spDraw := by
  refine F.ok scDraw (fun vs H Q E h => ?_) (fun cdv A outer s H vs Q E hr h => ?_)
  · obtain ⟨dl, c, wd, rfl, _⟩ := h
    rfl
  obtain ⟨dl, c, wd, rfl, hw0, hw1, D, k⟩ := h
  have hne : dl ≠ c := D.ne
  -- the body
  refine ⟨_, pss_cons (ps_while PassesOwn.never
      (PW.pt (pw_and (pt_cmpR (op_neD hr.units) (pe_ix ix_list (pv 0) pe_int (fun _ _ => rfl)) (pe_lst pa_nil) (nomark _))
        (pw_and1 (pt_cmpR op_eq (pe_ix ix_list (pe_ix ix_list (pv 0) pe_int (fun _ _ => rfl)) (pe_un un_neg pe_int) (fun _ _ => rfl)) pe_int (nomark _)))))
      (pss_one (ps_expr (pe_bm0 PySem.F.plainAttrs_list PySem.F.slot_list_pop PySem.F.type_list_pop mt_pop (pe_ix ix_list (pv 0) pe_int (fun _ _ => rfl))))))
    (pss_cons (ps_if (pt_cmpR (op_neD hr.units) (pe_ix ix_list (pv 0) pe_int (fun _ _ => rfl)) (pe_lst pa_nil) (nomark _))
      (pss_cons (ps_set (i := 2) scDraw.nd rfl (.inl rfl) (pe_bm0 PySem.F.plainAttrs_list PySem.F.slot_list_pop PySem.F.type_list_pop mt_pop (pe_ix ix_list (pv 0) pe_int (fun _ _ => rfl))))
      (pss_cons (ps_expr (pe_bm PySem.F.plainAttrs_list PySem.F.slot_list_append PySem.F.type_list_append mt_append (pe_ix ix_list (pv 0) pe_int (fun _ _ => rfl)) (pa_cons (pe_op op_fdiv (pv 2) (pv 1)) pa_nil)))
      (pss_one (ps_ret (pe_op op_mod (pe_callTy call_int1 (by rfl) mi (by decide +kernel) (pa_cons (pv 2) pa_nil)) (pv 1))))))
      pss_nil)
    (pss_cons (ps_asg (pe_op op_add (pe_ix ix_list (pv 0) pe_int (fun _ _ => rfl)) pe_int) (pg_sub (pv 0) pe_int set_list))
    (pss_cons (ps_asg (pe_op op_mod (pe_callTy call_int1 (by rfl) mi (by decide +kernel) (pa_cons (pe_op op_add (pe_op op_mul (pe_op op_add (pe_ix ix_list (pv 0) pe_int (fun _ _ => rfl)) (pe_op op_mul pe_int (pe_ix ix_list (pv 0) pe_int (fun _ _ => rfl)))) pe_int) pe_int) pa_nil)) pe_int) (pg_sub (pv 0) pe_int set_list))
    (pss_one (ps_ret (pe_op op_mod (pe_callTy call_int1 (by rfl) mi (by decide +kernel) (pa_cons (pe_op op_fdiv (pe_ix ix_list (pv 0) pe_int (fun _ _ => rfl)) pe_int) pa_nil)) (pv 1))))))), ?_⟩
  -- deal[0] is what it is
  have z63 : ∀ ns : List Int, ns.length ≤ 63 → (ns.map V.int).length < sizeLine := fun ns h => by rw [List.length_map]; exact line63 h
  refine exit_first (fun σ H1 => σ = [some (.ref dl), some (.int wd), none] ∧ Deal H1 dl c ∧ Kp dl c H H1) ?rest fun rest => ?loop
  case rest =>
    rintro σ H1 ⟨rfl, ⟨ns, s, kk, h1, h2, h3⟩, kp⟩
    refine ⟨_, rfl, dl, _, 0, .ref c, rfl, rfl, SqL.of h1, rfl, (by show 0 ≤ sizeLine; decide), fun p hp => ?_⟩
    have npc : c ≠ p := ne_of_none h2 hp
    have npd : dl ≠ p := ne_of_none h1 hp
    have h1' : (upd H1 p (.lst [])) dl = some (.lst [.ref c, .int s, .int kk]) := by rw [upd_ne npd]; exact h1
    have h2' : (upd H1 p (.lst [])) c = some (.lst (ns.map V.int)) := by rw [upd_ne npc]; exact h2
    have kp' : Kp dl c H (upd H1 p (.lst [])) := kp.trans (Kp.new hp)
    refine ⟨.list (ns.map PyData.int), .list (([] : List Int).map PyData.int), Dp.lst (SqL.of h2') (dp_ints ns), Dp.lst (SqL.of upd_same) .nil, PySem.W.ke_shaped_ints ns, PySem.W.ke_shaped_ints [], _, rfl, ?_⟩
    rcases List.eq_nil_or_concat ns with rfl | ⟨ms, z, e⟩
    · refine iteY eqv_nil ?_
      -- deal[2] = deal[2] + 1
      refine ⟨_, rfl, dl, _, 2, .int kk, rfl, rfl, SqL.of h1', rfl, _, _, rfl, rfl, _, rfl, dl, _, 2, 2, rfl, rfl, h1', rfl, ?_⟩
      -- deal[1] = int((deal[1] + 4799 * deal[2]) * 48271 + 67) % 2147483647
      have g1 : (upd (upd H1 p (.lst [])) dl (.lst ([V.ref c, .int s, .int kk].set 2 (.int (kk + 1))))) dl = some (.lst [.ref c, .int s, .int (kk + 1)]) := upd_same
      refine ⟨_, rfl, dl, _, 1, .int s, rfl, rfl, SqL.of g1, rfl, _, rfl, dl, _, 2, .int (kk + 1), rfl, rfl, SqL.of g1, rfl, _, _, rfl, rfl, .inl ⟨by decide, by decide⟩, _, _, rfl, rfl, _, _, rfl, rfl, .inr ⟨by decide, by decide⟩, _, _, rfl, rfl, .inl ⟨_, rfl, ?_⟩⟩
      refine ⟨_, _, rfl, rfl, (by show (0 : Int) < 2147483647; decide), _, rfl, dl, _, 1, 1, rfl, rfl, g1, rfl, ?_⟩
      -- return int(deal[1] // 16) % wide
      have g2 : ∀ v, (upd (upd (upd H1 p (.lst [])) dl (.lst ([V.ref c, .int s, .int kk].set 2 (.int (kk + 1))))) dl (.lst ([V.ref c, .int s, .int (kk + 1)].set 1 (.int v)))) dl = some (.lst [.ref c, .int v, .int (kk + 1)]) := fun v => upd_same
      refine ⟨_, rfl, dl, _, 1, _, rfl, rfl, SqL.of (g2 _), rfl, _, _, rfl, rfl, ⟨by decide, by decide⟩, .inl ⟨_, rfl, _, rfl, _, _, rfl, rfl, hw0, ?_⟩⟩
      refine k _ _ (Int.emod_nonneg _ (by omega)) (Int.emod_lt_of_pos _ hw0) ⟨[], _, _, g2 _, ?_, by decide⟩ ?_
      · rw [upd_ne hne.symm, upd_ne hne.symm]
        exact h2'
      · exact kp'.trans (Kp.at1.trans Kp.at1)
    · rw [List.concat_eq_append] at e
      subst e
      refine iteN (eqv_snoc ms z) ?_
      rw [map_snoc] at h2'
      -- left = deal[0].pop()
      refine ⟨_, rfl, dl, _, 0, .ref c, rfl, rfl, SqL.of h1', rfl, .inl ⟨rfl, _, SqL.of h2'⟩, c, _, .int z, rfl, rfl, h2', snoc_last _ _, ?_⟩
      rw [snoc_drop]
      -- deal[0].append(left // wide)
      have g1 : (upd (upd H1 p (.lst [])) c (.lst (ms.map V.int))) dl = some (.lst [.ref c, .int s, .int kk]) := by rw [upd_ne hne]; exact h1'
      have g2 : (upd (upd H1 p (.lst [])) c (.lst (ms.map V.int))) c = some (.lst (ms.map V.int)) := upd_same
      have hml : ms.length ≤ 62 := by
        rw [List.length_append, List.length_singleton] at h3
        omega
      refine ⟨_, rfl, dl, _, 0, .ref c, rfl, rfl, SqL.of g1, rfl, .inl ⟨rfl, _, SqL.of g2⟩, _, rfl, _, rfl, _, _, rfl, rfl, ⟨hw0, hw1⟩, c, _, _, rfl, rfl, g2, z63 ms (by omega), ?_⟩
      -- return int(left) % wide
      refine ⟨_, rfl, .inl ⟨_, rfl, _, rfl, _, _, rfl, rfl, hw0, ?_⟩⟩
      refine k _ _ (Int.emod_nonneg _ (by omega)) (Int.emod_lt_of_pos _ hw0) ⟨ms ++ [z / wd], s, kk, ?_, ?_, ?_⟩ ?_
      · rw [upd_ne hne]
        exact g1
      · rw [map_snoc]
        exact upd_same
      · rw [List.length_append, List.length_singleton]
        omega
      · exact kp'.trans (Kp.at2.trans Kp.at2)
  case loop =>
    refine ⟨fun m σ H1 => ∃ (ns : List Int) (s kk : Int), σ = [some (.ref dl), some (.int wd), none] ∧ H1 dl = some (.lst [.ref c, .int s, .int kk]) ∧ H1 c = some (.lst (ns.map V.int)) ∧ ns.length ≤ 63 ∧ Kp dl c H H1 ∧ m = ns.length, ?_, ?_⟩
    · obtain ⟨ns, s, kk, h1, h2, h3⟩ := D
      exact ⟨_, ns, s, kk, rfl, h1, h2, h3, Kp.refl _, rfl⟩
    rintro m σ H1 ⟨ns, s, kk, rfl, h1, h2, h3, kp, rfl⟩
    refine ⟨_, rfl, dl, _, 0, .ref c, rfl, rfl, SqL.of h1, rfl, (by show 0 ≤ sizeLine; decide), fun p hp => ?_⟩
    have npc : c ≠ p := ne_of_none h2 hp
    have npd : dl ≠ p := ne_of_none h1 hp
    have h1' : (upd H1 p (.lst [])) dl = some (.lst [.ref c, .int s, .int kk]) := by rw [upd_ne npd]; exact h1
    have h2' : (upd H1 p (.lst [])) c = some (.lst (ns.map V.int)) := by rw [upd_ne npc]; exact h2
    have kp' : Kp dl c H (upd H1 p (.lst [])) := kp.trans (Kp.new hp)
    refine ⟨.list (ns.map PyData.int), .list (([] : List Int).map PyData.int), Dp.lst (SqL.of h2') (dp_ints ns), Dp.lst (SqL.of upd_same) .nil, PySem.W.ke_shaped_ints ns, PySem.W.ke_shaped_ints [], _, rfl, ?_⟩
    rcases List.eq_nil_or_concat ns with rfl | ⟨ms, z, e⟩
    · refine iteY eqv_nil ?_
      refine iteF ?_
      exact rest _ _ ⟨rfl, ⟨[], s, kk, h1', h2', h3⟩, kp'⟩
    · rw [List.concat_eq_append] at e
      subst e
      refine iteN (eqv_snoc ms z) ?_
      have h2a := h2'
      rw [map_snoc] at h2a
      refine ⟨_, rfl, dl, _, 0, .ref c, rfl, rfl, SqL.of h1', rfl, 1, rfl, c, _, -1, .int z, rfl, rfl, SqL.of h2a, atI_last _ _, rfl, _, rfl, ?_⟩
      refine ite2 (fun _ => ?_) (fun _ => ?_)
      · refine ⟨fun σ' H' => ∃ (ns : List Int) (s kk : Int), σ' = [some (.ref dl), some (.int wd), none] ∧ H' dl = some (.lst [.ref c, .int s, .int kk]) ∧ H' c = some (.lst (ns.map V.int)) ∧ ns.length ≤ 63 ∧ Kp dl c H H' ∧ ms.length = ns.length, ?_, ?_⟩
        · rintro σ' H' ⟨ns', s', k', w1, w2, w3, w4, w5, w6⟩
          exact ⟨ms.length, by rw [List.length_append, List.length_singleton]; omega, ns', s', k', w1, w2, w3, w4, w5, w6⟩
        · refine ⟨_, rfl, dl, _, 0, .ref c, rfl, rfl, SqL.of h1', rfl, .inl ⟨rfl, _, SqL.of h2a⟩, c, _, .int z, rfl, rfl, h2a, snoc_last _ _, ?_⟩
          rw [snoc_drop]
          refine ⟨ms, s, kk, rfl, ?_, upd_same, ?_, kp'.trans Kp.at2, rfl⟩
          · rw [upd_ne hne]
            exact h1'
          · rw [List.length_append, List.length_singleton] at h3
            omega
      · exact rest _ _ ⟨rfl, ⟨ms ++ [z], s, kk, h1', h2', h3⟩, kp'⟩
end
end My

set_option Elab.async false
set_option maxRecDepth 100000
set_option maxHeartbeats 4000000
namespace My
open PySem L2
section
variable {P : Program} {w : World} {K : PySem.W.Frag} {mg : Str → Option Value} {base : Heap}
/-- what comes behind a statement is shown first -/
theorem seq_first {t u : TS} {D : Ends} {σ : St} {H : Hp} (Ex : St → Hp → Prop) (hx : ∀ σ H, Ex σ H → u D σ H) (h : (∀ σ H, Ex σ H → u D σ H) → tSeq t u D σ H) : tSeq t u D σ H := h hx
theorem Kp.upd {H H' : Hp} {x y p : Addr} {o : HO} (k : Kp x y H H') (h : H p = none) : Kp x y H (upd H' p o) := fun b u e n m => by rw [upd_ne (ne_of_none e h)]; exact k b u e n m
theorem Kp.none {H H' : Hp} {x y p : Addr} (k : Kp x y H H') (h : H' p = none) (n : p ≠ x) (m : p ≠ y) : H p = Option.none := by
  cases q : H p with
  | none => rfl
  | some o =>
    rw [k p o q n m] at h
    cases h
theorem small1k {n : Nat} (h : n ≤ 1000) : n ≤ sizeLine := Nat.le_of_lt (small1000 h)
theorem scPick : FnScope ["deal", "some"] ["deal", "some"] (defScope sPick) := ⟨rfl, rfl, rfl, by decide +kernel, rfl, by decide +kernel, by decide +kernel⟩
theorem ok_pick {f fD : Addr} {fd fdD : FuncData} (F : Fun K "_law_pick" "_law_pick" sPick f fd) (GD : FnOk P w K mg base CX0 1 fD fdD ["deal", "wide"] spDraw) (bD : Binds K fdD ["deal", "wide"] []) (kD : PySem.W.keepIn K (.ref fD) = true) (mD : mg "_law_draw" = some (.ref fD)) (ml : mg "len" = none) :
    FnOk P w K mg base CX0 2 f fd ["deal", "some"] (spPick K) := by
  refine F.ok scPick (fun vs H Q E h => ?_) (fun cdv A outer s H vs Q E hr h => ?_)
  · obtain ⟨dl, c, l, xs, rfl, _⟩ := h
    rfl
  obtain ⟨dl, c, l, xs, rfl, hS, n1, n2, h0, h1, D, k⟩ := h
  refine ⟨_, pss_one (ps_ret (pe_ix ix_list (pv 1) (pe_call GD hr rfl mD kD bD .nil pass0 (pa_cons (pv 0) (pa_cons (pe_callB call_len_seq rfl ml PySem.boot_len (pa_cons (pv 1) pa_nil)) pa_nil))) (fun _ _ => rfl))), ?_⟩
  refine ⟨_, rfl, _, rfl, _, rfl, l, xs, rfl, .inl hS, dl, c, _, rfl, by omega, by omega, D, fun r H' r0 r1 D' k' => ?_⟩
  have hr1 : r.toNat < xs.length := by omega
  have e : ((r.toNat : Nat) : Int) = r := by omega
  have q : atI xs ((r.toNat : Nat) : Int) = some xs[r.toNat] := atI_nat (List.getElem?_eq_getElem hr1)
  rw [e] at q
  exact ⟨l, xs, r, xs[r.toNat], rfl, rfl, k'.seqL hS n1 n2, q, k _ _ (List.getElem_mem hr1) D' k'⟩

theorem scAny : FnScope ["deal", "deep", "form", "some", "turn"] ["deal", "deep"] (defScope sAny) := ⟨rfl, rfl, rfl, by decide +kernel, rfl, by decide +kernel, by decide +kernel⟩
theorem any_none {f : Addr} {fd : FuncData} : FnOk P w K mg base CX0 2 f fd ["deal", "deep"] (spAny 0) := by
  have no : ∀ vs H Q E, ¬ spAny 0 vs H Q E := fun vs H Q E h => by
    obtain ⟨dl, c, d, _, h1, h2, _⟩ := h
    omega
  exact ⟨fun vs H Q E h => absurd h (no vs H Q E), fun A outer s H args us vs Q E _ _ _ _ h => absurd h (no vs H Q E)⟩
theorem ok_any {n : Nat} {f fD fP : Addr} {fd fdD fdP : FuncData} (F : Fun K "_law_any" "_law_any" sAny f fd) (GD : FnOk P w K mg base CX0 1 fD fdD ["deal", "wide"] spDraw) (bD : Binds K fdD ["deal", "wide"] []) (kD : PySem.W.keepIn K (.ref fD) = true) (mD : mg "_law_draw" = some (.ref fD))
    (GP : FnOk P w K mg base CX0 2 fP fdP ["deal", "some"] (spPick K)) (bP : Binds K fdP ["deal", "some"] []) (kP : PySem.W.keepIn K (.ref fP) = true) (mP : mg "_law_pick" = some (.ref fP))
    (GA : FnOk P w K mg base CX0 (n + 2) f fd ["deal", "deep"] (spAny n)) (bA : Binds K fd ["deal", "deep"] []) (mA : mg "_law_any" = some (.ref f)) (mr : mg "range" = none) (mt : mg "tuple" = none) :
    FnOk P w K mg base CX0 (n + 3) f fd ["deal", "deep"] (spAny (n + 1)) := by
  refine F.ok scAny (fun vs H Q E h => ?_) (fun cdv A outer s H vs Q E hr h => ?_)
  · obtain ⟨dl, c, d, rfl, _⟩ := h
    rfl
  obtain ⟨dl, c, d, rfl, d0, d1, D, k⟩ := h
  have hr1 : Room 1 _ := hr.mono (by omega)
  have hr2 : Room 2 _ := hr.mono (by omega)
  refine ⟨_, pss_cons (ps_set (i := 2) scAny.nd rfl (.inl rfl) (pe_ifExp (pt_cmpR op_gt (pv 1) pe_int (nomark _)) (pe_call GD hr1 rfl mD kD bD .nil pass0 (pa_cons (pv 0) (pa_cons pe_int pa_nil))) pe_int))
    (pss_cons (ps_if (pt_cmpR op_lt (pv 2) pe_int (nomark _))
      (pss_cons (ps_setLc (i := 3) (own := [("turn", 4)]) (g := gName 4) (tt := tYes) rfl scAny.nd rfl rfl (sw_true rfl rfl rfl (by decide +kernel)) (pi_range1 rfl mr (pa_cons (pe_call GD hr1 rfl mD kD bD .nil pass0 (pa_cons (pv 0) (pa_cons pe_int pa_nil))) pa_nil))
          (blkOk_by (own := [("turn", 4)]) (N := ["deal", "deep", "form", "some", "turn"]) (sc := defScope sAny) (by decide +kernel)) (fun _ _ _ _ _ => pg_name (i := 4) scAny.nd rfl (Or.inl rfl)) (fun _ _ _ _ _ => pts_nil)
          (fun _ _ _ _ _ => pe_call GA hr rfl mA F.kp bA .nil pass0 (pa_cons (pv 0) (pa_cons (pe_op op_sub (pv 1) pe_int) pa_nil))))
      (pss_one (ps_ret (pe_ifExp (pt_cmpR op_eq (pv 2) pe_int (nomark _)) (pv 3) (pe_callTy call_tuple_of rfl mt (by decide +kernel) (pa_cons (pv 3) pa_nil))))))
      pss_nil)
    (pss_cons (ps_set (i := 3) scAny.nd rfl (.inl rfl) (pe_lst (pa_cons pe_non (pa_cons pe_bl (pa_cons pe_bl (pa_cons pe_int (pa_cons pe_int (pa_cons (pe_op op_sub pe_int pe_int) (pa_cons pe_int (pa_cons (pe_op op_pow pe_int pe_int)
        (pa_cons pe_str (pa_cons pe_str (pa_cons pe_str (pa_cons pe_str (pa_cons pe_str (pa_cons pe_str (pa_cons (pe_tup pa_nil) (pa_cons (pe_lst pa_nil) pa_nil))))))))))))))))))
    (pss_one (ps_ret (pe_call GP hr2 rfl mP kP bP .nil pass0 (pa_cons (pv 0) (pa_cons (pv 3) pa_nil))))))), ?_⟩
  refine seq_first (fun σ H1 => ∃ fm : Int, σ = [some (.ref dl), some (.int d), some (.int fm), none, none] ∧ Deal H1 dl c ∧ Kp dl c H H1 ∧ (fm < 2 → 0 < d)) ?rest fun rest => ?first
  case first =>
    refine ⟨_, rfl, _, _, rfl, rfl, _, rfl, ?_⟩
    refine ite2 (fun hc => ?_) (fun hc => ?_)
    · have hd : 0 < d := of_decide_eq_true hc
      refine ⟨_, rfl, dl, c, 6, rfl, by decide, by decide, D, fun r H' r0 r1 D' k' => ?_⟩
      exact rest _ _ ⟨r, rfl, D', k', fun _ => hd⟩
    · exact rest _ _ ⟨9, rfl, D, Kp.refl _, fun z => absurd z (by decide)⟩
  case rest =>
    rintro σ H1 ⟨fm, rfl, D1, k1, hfm⟩
    refine ⟨_, rfl, _, _, rfl, rfl, _, rfl, ?_⟩
    refine ite2 (fun hc => ?_) (fun hc => ?_)
    · have hd : 0 < d := hfm (of_decide_eq_true hc)
      -- some = [_law_any(deal, deep - 1) for turn in range(_law_draw(deal, 3))]
      refine ⟨_, rfl, dl, c, 3, rfl, by decide, by decide, D1, fun r H2 r0 r1 D2 k2 => ⟨r, rfl, by omega, by omega, ?_⟩⟩
      intro L hL
      have nd : L ≠ dl := fun e => by
        obtain ⟨_, _, _, z, _⟩ := D2
        rw [← e, hL] at z
        cases z
      have nc : L ≠ c := fun e => by
        obtain ⟨_, _, _, _, z, _⟩ := D2
        rw [← e, hL] at z
        cases z
      refine lc_range (lo := 0) (n := r.toNat) (fun i H3 => ∃ acc : List V, H3 L = some (.lst acc) ∧ acc.length = i ∧ Deal H3 dl c ∧ Kp dl c H H3) ⟨[], upd_same, rfl, D2.keep (Same.new hL), (k1.trans k2).trans (Kp.new hL)⟩ ?_ ?_
      · rintro i H3 hi ⟨acc, a1, a2, D3, k3⟩
        refine ⟨rfl, ?_⟩
        refine ⟨_, rfl, _, rfl, _, _, rfl, rfl, dl, c, d - 1, rfl, by omega, by omega, D3, fun x H4 D4 k4 => ?_⟩
        refine ⟨acc, k4 _ _ a1 nd nc, small1000 (by omega), acc ++ [x], upd_same, ?_, ?_, (k3.trans k4).upd ((k1.trans k2).none hL nd nc)⟩
        · rw [List.length_append, List.length_singleton, a2]
        · obtain ⟨ns, sv, kv, e1, e2, e3⟩ := D4
          exact ⟨ns, sv, kv, by rw [upd_ne nd.symm]; exact e1, by rw [upd_ne nc.symm]; exact e2, e3⟩
      · rintro H3 ⟨acc, a1, a2, D3, k3⟩
        -- return some if form == 0 else tuple(some)
        refine ⟨_, rfl, rfl, _, rfl, ?_⟩
        refine ite2 (fun hc => ?_) (fun hc => ?_)
        · exact ⟨_, rfl, k _ _ D3 k3⟩
        · refine ⟨_, rfl, L, acc, rfl, .inl ⟨SqL.of a1, fun l hl => ?_⟩⟩
          exact k _ _ (D3.keep (Same.new hl)) (k3.trans (Kp.new hl))
    · -- some = [None, ..]
      refine ⟨_, _, rfl, rfl, _, _, rfl, rfl, ⟨by decide, by decide, by decide⟩, ?_⟩
      refine ⟨(by show 0 ≤ sizeLine; decide), fun t ht => ?_⟩
      refine ⟨(by show 0 ≤ sizeLine; decide), fun l hl => ?_⟩
      refine ⟨(by show 16 ≤ sizeLine; decide), fun m hm => ?_⟩
      have s1 : Same H1 (upd H1 t (.tup [])) := Same.new ht
      have s2 : Same H1 (upd (upd H1 t (.tup [])) l (.lst [])) := s1.trans (Same.new hl)
      have D3 := (D1.keep s2).keep (Same.new (o := .lst [.non, .bl true, .bl false, .int 0, .int 1, .int (0 - 1), .int 99, .int (10 ^ (20 : Int).toNat), .str "", .str "abcde", .str "A", .str "take p", .str "reads", .str "s ", .ref t, .ref l]) hm)
      refine ⟨_, rfl, _, rfl, dl, c, m, _, rfl, SqL.of upd_same, ?_, ?_, by show 0 < 16; decide, by show 16 < 1000; decide, D3, fun x H' _ D' k' => ?_⟩
      · intro e
        obtain ⟨_, _, _, z, _⟩ := D1.keep s2
        rw [← e, hm] at z
        cases z
      · intro e
        obtain ⟨_, _, _, _, z, _⟩ := D1.keep s2
        rw [← e, hm] at z
        cases z
      · exact k _ _ D' (((k1.trans (Kp.same s2)).trans (Kp.new hm)).trans k')
end
end My

set_option Elab.async false
set_option maxRecDepth 100000
set_option maxHeartbeats 4000000
namespace My
open PySem L2
/-- _law_deal(script, base) -/
def spDeal (K : PySem.W.Frag) : Sp := fun vs H Q _ => ∃ (a : Addr) (ns : List Int) (b : Int), vs = [.ref a, .int b] ∧ SqL K H a (ns.map V.int) ∧ ns.length ≤ 63 ∧
  ∀ (dl c : Addr) (H' : Hp), Same H H' → Deal H' dl c → H dl = none → H c = none → Q (.ref dl) H'
theorem cut_ints (ns : List Int) (h : ns.length ≤ 63) (lo hi : Option Int) : ∃ ms : List Int, cutV (ns.map V.int) lo hi = ms.map V.int ∧ ms.length ≤ 63 := by
  refine ⟨(ns.drop (HT.sIx (ns.map V.int).length 0 lo)).take (HT.sIx (ns.map V.int).length (ns.map V.int).length hi - HT.sIx (ns.map V.int).length 0 lo), ?_, ?_⟩
  · unfold cutV
    rw [List.map_take, List.map_drop]
  · rw [List.length_take, List.length_drop]
    omega
theorem ints_at {ns : List Int} {i : Nat} {x : V} (h : (ns.map V.int)[i]? = some x) : ∃ z : Int, x = V.int z := by
  rw [List.getElem?_map] at h
  cases e : ns[i]? with
  | none =>
    rw [e] at h
    cases h
  | some z =>
    rw [e] at h
    exact ⟨z, (Option.some.inj h).symm⟩
section
variable {P : Program} {w : World} {K : PySem.W.Frag} {mg : Str → Option Value} {base : Heap}
theorem scDeal : FnScope ["script", "base", "cell", "cells_here", "stirred"] ["script", "base"] (defScope sDeal) := ⟨rfl, rfl, rfl, by decide +kernel, rfl, by decide +kernel, by decide +kernel⟩
theorem ok_deal {f : Addr} {fd : FuncData} (F : Fun K "_law_deal" "_law_deal" sDeal f fd) (mi : mg "int" = none) (ma : mg "abs" = none) : FnOk P w K mg base CX0 1 f fd ["script", "base"] (spDeal K) := by
  refine F.ok scDeal (fun vs H Q E h => ?_) (fun cdv A outer s H vs Q E hr h => ?_)
  · obtain ⟨a, ns, b, rfl, _⟩ := h
    rfl
  obtain ⟨a, ns, b, rfl, hS, h63, k⟩ := h
  refine ⟨_, pss_cons (ps_setLc (i := 3) (own := [("cell", 2)]) (g := gName 2) (tt := tYes) rfl scDeal.nd rfl rfl (sw_true rfl rfl rfl (by decide +kernel)) (pi_list (pe_slice sl_list (pv 0) (po_some (pv 1)) (po_some pe_int)))
        (blkOk_by (own := [("cell", 2)]) (N := ["script", "base", "cell", "cells_here", "stirred"]) (sc := defScope sDeal) (by decide +kernel)) (fun _ _ _ _ _ => pg_name (i := 2) scDeal.nd rfl (Or.inl rfl)) (fun _ _ _ _ _ => pts_nil)
        (fun _ _ _ _ _ => pe_callB call_abs rfl ma (by decide +kernel) (pa_cons (pe_callTy call_int1 rfl mi (by decide +kernel) (pa_cons (pv 2) pa_nil)) pa_nil)))
    (pss_cons (ps_set (i := 4) scDeal.nd rfl (.inl rfl) (pe_op op_add pe_int (pe_op op_mul pe_int (pv 1))))
    (pss_cons (ps_for PassesOwn.never rfl (pi_list (pv 3)) (pg_name (i := 2) scDeal.nd rfl (Or.inl rfl))
      (pss_one (ps_set (i := 4) scDeal.nd rfl (.inl rfl) (pe_op op_mod (pe_callTy call_int1 rfl mi (by decide +kernel) (pa_cons (pe_op op_add (pe_op op_add (pe_op op_mul (pv 4) pe_int) (pe_op op_mod (pe_callTy call_int1 rfl mi (by decide +kernel) (pa_cons (pv 2) pa_nil)) pe_int)) pe_int) pa_nil)) pe_int))))
    (pss_one (ps_ret (pe_lst (pa_cons (pe_revL (pe_lc (own := [("cell", 2)]) (g := gName 2) rfl scDeal.nd (pi_list (pv 3))
        (blkOk_by (own := [("cell", 2)]) (N := ["script", "base", "cell", "cells_here", "stirred"]) (sc := defScope sDeal) (by decide +kernel)) (fun _ _ _ _ _ => pg_name (i := 2) scDeal.nd rfl (Or.inl rfl)) (fun _ _ _ _ _ => pts_one (pt_cmpR op_ge (pv 2) (pe_op op_pow pe_int pe_int) (nomark _)))
        (fun _ _ _ _ _ => pv 2))) (pa_cons (pv 4) (pa_cons pe_int pa_nil)))))))), ?_⟩
  -- cells_here = [abs(int(cell)) for cell in script[base:62]]
  obtain ⟨ms, em, hm⟩ := cut_ints ns h63 (some b) (some 62)
  refine ⟨_, rfl, ⟨_, rfl, b, rfl, 62, rfl, a, _, rfl, hS, fun p hp => ⟨p, rfl, ⟨_, SqL.of upd_same⟩, ?_⟩⟩⟩
  intro L hL
  rw [em] at hL ⊢
  have nLp : p ≠ L := ne_of_none upd_same hL
  have hpm : (upd H p (.lst (ms.map V.int))) p = some (.lst (ms.map V.int)) := upd_same
  have s0 : Same H (upd H p (.lst (ms.map V.int))) := Same.new hp
  have hL0 : H L = none := s0.free hL
  refine lc_list (K := K) (a := p) (xs := ms.map V.int) (fun i H1 => ∃ qs : List Int, H1 L = some (.lst (qs.map V.int)) ∧ qs.length = i ∧ Same H H1 ∧ H1 p = some (.lst (ms.map V.int))) ⟨[], upd_same, rfl, s0.trans (Same.new hL), by rw [upd_ne nLp]; exact hpm⟩
    (fun i H1 _ ⟨_, _, _, _, e⟩ => SqL.of e) ?_ ?_
  · rintro i x H1 hx ⟨qs, a1, a2, s1, e1⟩
    obtain ⟨z, rfl⟩ := ints_at hx
    have hi : i < ms.length := by
      have q := (List.getElem?_eq_some_iff.mp hx).1
      rw [List.length_map] at q
      exact q
    refine ⟨rfl, ?_⟩
    refine ⟨_, rfl, .inl ⟨_, rfl, _, rfl, ?_⟩⟩
    refine ⟨_, a1, by rw [List.length_map]; exact line63 (by omega), qs ++ [if z < 0 then -z else z], by rw [map_snoc]; exact upd_same, by rw [List.length_append, List.length_singleton, a2], fun c o e => ?_, by rw [upd_ne nLp]; exact e1⟩
    rw [upd_ne (ne_of_none e hL0)]
    exact s1 c o e
  rintro H1 ⟨qs, a1, a2, s1, e1⟩
  rw [List.length_map] at a2
  have q63 : qs.length ≤ 63 := by omega
  -- stirred = 32452843 + 71 * base
  refine ⟨_, rfl, _, _, rfl, rfl, .inl ⟨by decide, by decide⟩, _, _, rfl, rfl, ?_⟩
  -- for cell in cells_here: ..
  refine ⟨_, rfl, L, rfl, ⟨_, SqL.of a1⟩, for_list (K := K) (a := L) (xs := qs.map V.int) (fun i σ H2 => H2 = H1 ∧ ∃ (v : Option V) (st : Int), σ = [some (.ref a), some (.int b), v, some (.ref L), some (.int st)]) ⟨rfl, _, _, rfl⟩
    (fun i σ H2 _ ⟨e, _⟩ => by rw [e]; exact SqL.of a1) ?_ ?_⟩
  · rintro i x σ H2 hx ⟨rfl, v, st, rfl⟩
    obtain ⟨z, rfl⟩ := ints_at hx
    refine ⟨_, rfl, _, _, rfl, rfl, .inr ⟨by decide, by decide⟩, _, rfl, .inl ⟨_, rfl, _, _, rfl, rfl, (by show (0 : Int) < 2147483629; decide), _, _, rfl, rfl, _, _, rfl, rfl, .inl ⟨_, rfl, _, _, rfl, rfl, (by show (0 : Int) < 2147483647; decide), ?_⟩⟩⟩
    exact ⟨rfl, _, _, rfl⟩
  rintro σ H2 ⟨rfl, v, st, rfl⟩
  -- [cell for cell in cells_here if cell >= 10 ** 18]
  refine ⟨_, rfl, L, rfl, ⟨_, SqL.of a1⟩, fun M hM => ?_⟩
  have nML : L ≠ M := ne_of_none a1 hM
  have hM0 : H M = none := s1.free hM
  refine lc_list (K := K) (a := L) (xs := qs.map V.int) (fun i H3 => ∃ rs : List Int, H3 M = some (.lst (rs.map V.int)) ∧ rs.length ≤ i ∧ Same H H3 ∧ H3 L = some (.lst (qs.map V.int))) ⟨[], upd_same, Nat.le_refl _, s1.trans (Same.new hM), by rw [upd_ne nML]; exact a1⟩
    (fun i H3 _ ⟨_, _, _, _, e⟩ => SqL.of e) ?_ ?_
  · rintro i x H3 hx ⟨rs, b1, b2, s3, e3⟩
    obtain ⟨z, rfl⟩ := ints_at hx
    have hi : i < qs.length := by
      have q := (List.getElem?_eq_some_iff.mp hx).1
      rw [List.length_map] at q
      exact q
    refine ⟨rfl, _, rfl, _, _, rfl, rfl, ⟨by decide, by decide, by decide⟩, _, _, rfl, rfl, _, rfl, ?_⟩
    refine ite2 (fun _ => ?_) (fun _ => ?_)
    · refine ⟨_, rfl, _, b1, by rw [List.length_map]; exact line63 (by omega), rs ++ [z], by rw [map_snoc]; exact upd_same, by rw [List.length_append, List.length_singleton]; omega, fun c o e => ?_, by rw [upd_ne nML]; exact e3⟩
      rw [upd_ne (ne_of_none e hM0)]
      exact s3 c o e
    · exact ⟨rs, b1, by omega, s3, e3⟩
  rintro H3 ⟨rs, b1, b2, s3, e3⟩
  rw [List.length_map] at b2
  -- [::-1], and the list of the three
  refine ⟨M, _, rfl, SqL.of b1, fun c hc => ?_⟩
  refine ⟨_, rfl, (by show 3 ≤ sizeLine; decide), fun dl hdl => ?_⟩
  have hc0 : H c = none := s3.free hc
  have hd0 : H dl = none := (s3.trans (Same.new hc)).free hdl
  have ncd : c ≠ dl := ne_of_none upd_same hdl
  refine k dl c _ ((s3.trans (Same.new hc)).trans (Same.new hdl)) ⟨rs.reverse, _, _, upd_same, ?_, by rw [List.length_reverse]; omega⟩ hd0 hc0
  rw [upd_ne ncd, upd_same, List.map_reverse]
end
end My

set_option Elab.async false
set_option maxRecDepth 100000
set_option maxHeartbeats 4000000
namespace My
open PySem PySem.Spec PyProof.Rows L2
section
variable {M : Model} {A : Around} {E : Value → Shared → Prop} {h : Heap} {g : Array GenState} {d : Drawn} {t : Nat} {os : OsState}
variable {nm q : Str} {C N : Addr} {bs bm bmB : List Value} {hdct : Bool} {sn : List Str} {sub : List Value} {ab : Bool} {col : Option Bool} {dd : Option Addr} {k0 k1 k2 k3 k5 : Option Value} {B nw iw : String}
theorem chk_new (F : ExcBaseFacts B nw iw bmB) (hB : bm.contains (.type B) = true) {rest : List Value} {kw : List (Str × Value)} {Q : Unit → Shared → Prop}
    (hC : h.get? C = some (excClassObj nm q C N bs bm hdct sn sub ab col dd k0 k1 k2 k3 k5 nw)) (hq : Q () ⟨h, g, d, t, os⟩) : wpAny M A (checkBuiltinCall nw ⟨.ref C :: rest, kw⟩) Q E ⟨h, g, d, t, os⟩ := by
  have z1 : (Value.ref C :: bm).contains (.type B) = true := by rw [List.contains_cons, hB, Bool.or_true]
  have z2 := F.noStar
  simp only [checkBuiltinCall, F.newKind, F.newSplit, F.newRow]
  repeat (first | refine wpAny_loadPart_at hC ?_ | (refine wpAny_isSubtype_exc hC ?_; rw [z1]) | refine wpAny_staticBase_exc hC ?_ | refine wpAny_madeBy_exc hC ?_ | simp only [bne_self_eq_false, Bool.false_eq_true, if_false] | wp_step)
  exact hq
end
section
variable {prog : Program} {w : World} {A : Around} {E : Value → Shared → Prop} {R : Result → Shared → Prop} {h : Heap} {g : Array GenState} {d : Drawn} {t : Nat} {os : OsState}
variable {nm q : Str} {C N : Addr} {bs bm bmB : List Value} {hdct : Bool} {sn : List Str} {sub : List Value} {ab : Bool} {col : Option Bool} {dd : Option Addr} {k0 k1 k2 k3 k5 : Option Value} {B nw iw : String}
/-- what the class's line of bases says -/
structure XM (bm : List Value) (B : String) : Prop where
  b : bm.contains (.type B) = true
  a : bm.contains (.type "AttributeError") = false
  n : bm.contains (.type "NameError") = false
/-- the exception's object at birth -/
abbrev xob (C t : Addr) : Obj := { cls := .ref C, data := .fields #[.ref t, .none, .none, .none, .bool false, .none] }
abbrev xtp (rest : List Value) : Obj := { cls := .type "tuple", data := .seq rest.toArray }
theorem run_new (F : ExcBaseFacts B nw iw bmB) (Z : XM bm B) {rest : List Value} {kw : List (Str × Value)} (hC : h.get? C = some (excClassObj nm q C N bs bm hdct sn sub ab col dd k0 k1 k2 k3 k5 nw))
    (hz : rest.length ≤ sizeLine) (hq : R (.ok (.ret (.ref (h.objs.size + 1)))) ⟨(h.push (xtp rest)).push (xob C h.objs.size), g, d, t, os⟩) : codeAny (model prog w) A (.builtin nw ⟨.ref C :: rest, kw⟩) R ⟨h, g, d, t, os⟩ := by
  have z0 := F.ends
  have z1 : (Value.ref C :: bm).contains (.type B) = true := by rw [List.contains_cons, Z.b, Bool.or_true]
  have z2 : (Value.ref C :: bm).contains (.type "AttributeError") = false := by rw [List.contains_cons, Z.a]; rfl
  have z3 : (Value.ref C :: bm).contains (.type "NameError") = false := by rw [List.contains_cons, Z.n]; rfl
  refine codeAny_builtinAt F.entry (?_ : PySem.wpAt _ _ _ _ _ _ _)
  unfold Builtin.«BaseException.__new__»
  refine PySem.wpAt_bind (?_ : PySem.wpAt _ _ _ (stack >>= _) _ _ _)
  refine PySem.wpAt_bind (PySem.wpAt_stack fun _ _ => PySem.wpAt_of_wpAny ?_)
  wp_walk
  refine PySem.wpAt_of_wpAny ?_
  rw [F.owner]
  repeat (first | with_reducible refine wpAny_madeHere_exc F.canon hC ?_ | with_reducible refine wpAny_loadPart_at hC ?_ | (with_reducible refine wpAny_isSubtype_exc hC ?_; first | rw [z1] | rw [z2] | rw [z3]) | wp_step)
  show R _ _
  rw [Heap.size_push]
  exact hq
theorem run_type (F : ExcBaseFacts B nw iw bmB) (Z : XM bm B) {rest : List Value} {kw : List (Str × Value)} {fI : Addr} {Q : Fin → Shared → Prop} (hC : h.get? C = some (excClassObj nm q C N bs bm hdct sn sub ab col dd k0 k1 k2 k3 k5 nw))
    (hi : PySem.W.Looks (model prog w) h (typeLookup (.ref C) "__init__") (some (.ref fI))) (hb : ∀ self, PySem.W.Looks (model prog w) h (bindSpecial (.ref fI) self) (.ref fI, [self])) (hz : rest.length ≤ sizeLine)
    (hq : codeAny (model prog w) A (.call (.ref fI) ⟨.ref (h.objs.size + 1) :: rest, kw⟩) (fun r s' => match r with | .ok (.ret v) => v = .none ∧ Q (.done (.ret (.ref (h.objs.size + 1)))) s' | .ok _ => False | .error e => E e s') ⟨(h.push (xtp rest)).push (xob C h.objs.size), g, d, t, os⟩) :
    wpAny (model prog w) A (Builtin.«type.__call__» ⟨.ref C :: rest, kw⟩) Q E ⟨h, g, d, t, os⟩ := by
  repeat (first | with_reducible refine wpAny_loadPart_at hC ?_ | with_reducible refine wpAny_madeBy_exc hC ?_ | wp_step)
  refine codeAny_call_builtin_code (Code.quiet_builtin _ F.quiet) (chk_new F Z.b hC (run_new F Z hC hz (?_ : wpAny _ _ _ _ _ _)))
  have kp : ∀ b o, h.get? b = some o → ((h.push (xtp rest)).push (xob C h.objs.size)).get? b = some o := fun b o e => Heap.get?_push_of_some _ (Heap.get?_push_of_some _ e)
  have c1 := kp _ _ hC
  have e1 : ((h.push (xtp rest)).push (xob C h.objs.size)).get? (h.objs.size + 1) = some (xob C h.objs.size) := by heap_get
  have z4 : (Value.ref C :: bm).contains (.ref C) = true := by simp
  have i1 := hi.keeps kp
  have b1 := (hb (.ref (h.objs.size + 1))).keeps kp
  unfold isInstance
  repeat (first | with_reducible refine wpAny_loadPart_at e1 ?_ | (with_reducible refine wpAny_isSubtype_exc c1 ?_; rw [z4]) | wp_step)
  refine (?_ : wpAny _ _ (typeLookup (.ref C) _) _ _ _)
  refine i1.at (wpAny_holding (wpAny_bind (b1.at (wpAny_bind (wpAny_call (codeAny_mono hq fun r s' z => ?_))))))
  rcases r with e | (v | _ | _ | _) <;> first | exact z | exact z.elim | skip
  obtain ⟨rfl, z⟩ := z
  first | exact wpAny_pure (wpAny_pure z) | (wp_walk; exact z)
theorem run_call (F : ExcBaseFacts B nw iw bmB) (Z : XM bm B) {rest : List Value} {kw : List (Str × Value)} {fI : Addr} (hC : h.get? C = some (excClassObj nm q C N bs bm hdct sn sub ab col dd k0 k1 k2 k3 k5 nw))
    (hi : PySem.W.Looks (model prog w) h (typeLookup (.ref C) "__init__") (some (.ref fI))) (hb : ∀ self, PySem.W.Looks (model prog w) h (bindSpecial (.ref fI) self) (.ref fI, [self])) (hz : rest.length ≤ sizeLine)
    (hq : codeAny (model prog w) (A.under (.builtin "type.__call__" ⟨.ref C :: rest, kw⟩)) (.call (.ref fI) ⟨.ref (h.objs.size + 1) :: rest, kw⟩) (PySem.W.InitBack (h.objs.size + 1) R) ⟨(h.push (xtp rest)).push (xob C h.objs.size), g, d, t, os⟩) :
    codeAny (model prog w) A (.call (.ref C) ⟨rest, kw⟩) R ⟨h, g, d, t, os⟩ := by
  have z1 := tc_lookup
  have z2 := tc_bind (.ref C)
  have z3 : (⟨h, g, d, t, os⟩ : Shared).TypeIs (.ref C) "type" := ⟨_, hC, rfl⟩
  refine codeAny_of_tree (?_ : wpAny _ _ (callAny (.ref C) _) _ _ _)
  repeat (any_goals (first | assumption | with_reducible refine wpAny_loadPart_at hC ?_ | wp_step))
  refine ⟨rfl, codeAny_call_builtin_at (Code.quiet_builtin _ (by decide +kernel)) entry_typeCall (wpAny_check_type_call_sub hC (run_type F Z hC hi hb hz (codeAny_mono hq fun r s' z => ?_)))⟩
  rcases r with e | (v | _ | _ | _) <;> exact z
end
end My

set_option Elab.async false
set_option maxRecDepth 100000
set_option maxHeartbeats 4000000
namespace My
open PySem PySem.Spec PyProof.Rows L2
/-- a class of exceptions of the program: mid is its line of bases behind itself -/
structure XCls (K : PySem.W.Frag) (C : Addr) (B nw : String) (bmB mid : List Value) : Prop where
  lk : ∃ nm q N bs sn sub ab col dd k0 k1 k2 k3 k5, K.lookup C = some (excClassObj nm q C N bs mid true sn sub ab col dd k0 k1 k2 k3 k5 nw)
  tail : PySem.W.excTail bmB mid = true
  m : XM mid B
  be : mid.contains (.type "BaseException") = true
  ob : mid.contains (.type "object") = true
  sa : PySem.W.findIn K (.ref C) "__setattr__" = some (some (.builtin "object.__setattr__"))
  ga : PySem.W.findIn K (.ref C) "__getattribute__" = some (some (.builtin "BaseException.__getattribute__"))
  gg : PySem.W.findIn K (.ref C) "__getattr__" = some none
  kc : PySem.W.findIn K (.ref C) "__class__" = some (some (.builtin "object.__class__"))
  kp : PySem.W.keepIn K (.ref C) = true
/-- the same of the getter of __class__ -/
structure XGet (K : PySem.W.Frag) : Prop where
  hn : PySem.W.specialIn K (.builtin "object.__class__") "__get__" = some (some (.builtin "getset_descriptor.__get__"))
  ht : PySem.W.takesIn K (.builtin "object.__class__") = some true
section
variable {K : PySem.W.Frag} {C D : Addr} {B nw B' nw' : String} {bmB mid bmB' mid' : List Value}
theorem XCls.cl (X : XCls K C B nw bmB mid) : ∃ cd : ClassData, PySem.W.clsIn K C = some cd ∧ cd.mro = .ref C :: mid ∧ cd.hasDict = true := by
  obtain ⟨nm, q, N, bs, sn, sub, ab, col, dd, k0, k1, k2, k3, k5, e⟩ := X.lk
  exact ⟨{ name := nm, bases := bs, mro := .ref C :: mid, ns := N, qualname := q, hasDict := true, slotNames := sn, subclasses := sub, abstract := ab, collection := col, hasDel := false }, by unfold PySem.W.clsIn; rw [e] <;> rfl, rfl, rfl⟩
theorem XCls.sm (X : XCls K C B nw bmB mid) : (PySem.W.clsIn K C).isSome = true := by
  obtain ⟨cd, e, _⟩ := X.cl
  rw [e]
  rfl
theorem XCls.dct (X : XCls K C B nw bmB mid) : PySem.W.hasDictIn K C = true := by
  obtain ⟨cd, e, _, e2⟩ := X.cl
  unfold PySem.W.hasDictIn
  rw [e]
  exact e2
theorem XCls.mro (X : XCls K C B nw bmB mid) (v : Value) : PySem.W.mroIn K C v = some ((Value.ref C :: mid).contains v) := by
  obtain ⟨cd, e, e1, _⟩ := X.cl
  unfold PySem.W.mroIn
  rw [e, Option.bind_some, e1]
  rfl
theorem XCls.over (X : XCls K C B nw bmB mid) : PySem.W.excOver K C bmB = true := by
  obtain ⟨cd, e, e1, _⟩ := X.cl
  unfold PySem.W.excOver
  rw [e]
  show (match cd.mro with | .ref C' :: bm => C' == C && PySem.W.excTail bmB bm | _ => false) = true
  rw [e1]
  show (C == C && PySem.W.excTail bmB mid) = true
  rw [X.tail, beq_self_eq_true]
  rfl
theorem XCls.isT (X : XCls K C B nw bmB mid) : PySem.W.typeIn K (.ref C) = some (.type "type") := by
  obtain ⟨nm, q, N, bs, sn, sub, ab, col, dd, k0, k1, k2, k3, k5, e⟩ := X.lk
  show (K.lookup C).map (·.cls) = _
  rw [e]
  rfl
theorem XCls.base (X : XCls K C B nw bmB mid) : PySem.W.subIn K (.ref C) (.type "BaseException") = some true := by
  show PySem.W.mroIn K C _ = _
  rw [X.mro, List.contains_cons, X.be, Bool.or_true]
theorem XCls.kitO (X : XCls K C B nw bmB mid) (Y : XCls K D B' nw' bmB' mid') : PySem.W.kitOne K (.ref C) (.ref D) = some (decide (D = C) || mid.contains (.ref D)) := by
  unfold PySem.W.kitOne
  by_cases h : D = C
  · subst h
    rw [if_pos (by simp), decide_eq_true rfl, Bool.true_or]
  · rw [if_neg (by simp; exact fun e => h e.symm), decide_eq_false h, Bool.false_or]
    unfold PySem.W.kitCls
    have e2 : ((PySem.W.clsIn K D).isSome && PySem.W.typeIn K (.ref D) == some (.type "type")) = true := by rw [Y.sm, Y.isT]; rfl
    show (if ((PySem.W.clsIn K D).isSome && PySem.W.typeIn K (.ref D) == some (.type "type")) = true then PySem.W.subIn K (.ref C) (.ref D) else none) = _
    rw [if_pos e2]
    show PySem.W.mroIn K C _ = _
    rw [X.mro, List.contains_cons]
    have e3 : (Value.ref D == Value.ref C) = false := by simp; exact h
    rw [e3, Bool.false_or]
theorem XCls.kitT (X : XCls K C B nw bmB mid) {T : String} (hT : PySem.W.kitMeta T = true) : PySem.W.kitOne K (.ref C) (.type T) = some (mid.contains (.type T)) := by
  unfold PySem.W.kitOne
  rw [if_neg (by simp)]
  show (if PySem.W.kitMeta T = true then PySem.W.subIn K (.ref C) (.type T) else none) = _
  rw [if_pos hT]
  show PySem.W.mroIn K C _ = _
  rw [X.mro, List.contains_cons]
  rfl
end
/-- an exception of the class C stands at e, its dict, where it has one, beside it -/
def Exc (H : Hp) (e C : Addr) : Prop := ∃ d, H e = some (exo e C d) ∧ (d = none ∨ ∃ dd fs, d = some dd ∧ H dd = some (exd dd fs))
theorem Exc.keep {H H' : Hp} {e C : Addr} (x : Exc H e C) (s : Same H H') : Exc H' e C := by
  obtain ⟨d, h1, h2⟩ := x
  refine ⟨d, s _ _ h1, ?_⟩
  rcases h2 with h2 | ⟨dd, fs, h2, h3⟩
  · exact .inl h2
  · exact .inr ⟨dd, fs, h2, s _ _ h3⟩
section
variable {X : Cx} {pins : List (Addr × Obj)} {σ : L2.St} {H : Hp} {s : Shared} {C : Addr} {B nw : String} {bmB mid : List Value}
theorem Exc.inst {e : Addr} (x : Exc H e C) (I : Inv X pins σ H s) : ∃ ox od, PySem.W.InstAt s.heap e ox C od := by
  obtain ⟨d, h1, h2⟩ := x
  obtain ⟨t1, g1⟩ := exo_at I.hok h1
  rcases h2 with rfl | ⟨dd, fs, rfl, h3⟩
  · exact ⟨_, none, g1, rfl, rfl, trivial⟩
  · obtain ⟨mA, ⟨o, es, ep, ho, _⟩, _⟩ := exd_at I.hok h3
    exact ⟨_, some o, g1, rfl, rfl, ho⟩
/-- isinstance(e, c) -/
def rIsX (K : PySem.W.Frag) : List V → Hp → VK → Prop := fun xs H Q => ∃ (a C : Addr) (c : V) (cv : Value) (B nw : String) (bmB mid : List Value) (b : Bool), xs = [.ref a, c] ∧ Exc H a C ∧ XCls K C B nw bmB mid ∧ ClsV c cv ∧ PySem.W.kitOne K (.ref C) cv = some b ∧ Q (.bl b) H
theorem call_isX (G : XGet X.K) : CallR X (.builtin "isinstance") (rIsX X.K) := by
  intro pins s σ H xs us Q I r h
  obtain ⟨a, C, c, cv, B, nw, bmB, mid, b, rfl, hx, XC, hc, e, q⟩ := h
  obtain ⟨u1, u2, rfl, r1, r2⟩ := vals2 r
  cases (show u1 = Value.ref a from r1)
  cases hc.eq r2
  obtain ⟨ox, od, J⟩ := hx.inst I
  exact PySem.W.kia_one (PySem.W.kitx_exc (ox := ox) (od := od) XC.sm XC.ga XC.gg XC.base XC.kc G.hn G.ht (by rw [XC.mro, List.contains_cons, XC.ob, Bool.or_true])) I.kIn J e (fun z => nomatch z) fun tk => ⟨.bl b, H, I.tok tk, rfl, q⟩
/-- isinstance(e, (c1, c2, ..)) -/
def rIsXT (K : PySem.W.Frag) : List V → Hp → VK → Prop := fun xs H Q => ∃ (a C tp : Addr) (cs : List V) (cvs : List Value) (B nw : String) (bmB mid : List Value) (b : Bool), xs = [.ref a, .ref tp] ∧ Exc H a C ∧ XCls K C B nw bmB mid ∧ H tp = some (.tup cs) ∧ Paired ClsV cs cvs ∧ PySem.W.kitAny K (.ref C) cvs = some b ∧ Q (.bl b) H
theorem call_isXT (G : XGet X.K) : CallR X (.builtin "isinstance") (rIsXT X.K) := by
  intro pins s σ H xs us Q I r h
  obtain ⟨a, C, tp, cs, cvs, B, nw, bmB, mid, b, rfl, hx, XC, hT, hc, e, q⟩ := h
  obtain ⟨u1, u2, rfl, r1, r2⟩ := vals2 r
  cases (show u1 = Value.ref a from r1)
  cases (show u2 = Value.ref tp from r2)
  obtain ⟨ox, od, J⟩ := hx.inst I
  obtain ⟨_, its, rv, ob, h1, h2, n, h3⟩ := (show ObjOk X.prog X.w H s.heap tp (.tup cs) from I.hok tp _ hT)
  cases ClsV.all hc rv
  obtain ⟨oc, odd, dt, sl⟩ := ob
  simp only at h2 h3
  subst h2 h3
  exact PySem.W.kia_tup (PySem.W.kitx_exc (ox := ox) (od := od) XC.sm XC.ga XC.gg XC.base XC.kc G.hn G.ht (by rw [XC.mro, List.contains_cons, XC.ob, Bool.or_true])) I.kIn J h1 e (fun z => nomatch z) fun tk => ⟨.bl b, H, I.tok tk, rfl, q⟩
/-- e.f, e an exception that holds f -/
def tXat (K : PySem.W.Frag) (f : Str) (te : TE) : TE := fun σ H Q => te σ H fun x H1 => ∃ (a C dd : Addr) (fs : List (Str × V)) (v : V) (B nw : String) (bmB mid : List Value), x = .ref a ∧ XCls K C B nw bmB mid ∧ PySem.W.findIn K (.ref C) f = some none ∧ H1 a = some (exo a C (some dd)) ∧ H1 dd = some (exd dd fs) ∧ fs.lookup f = some v ∧ Q v H1
theorem pe_xat {e : Expr} {te : TE} {pos : Pos} {n : Str} (he : PE X e te) (hb : attributeBase e n X.env (eval e X.env) = eval e X.env := by rfl) : PE X (.Attribute e n pos) (tXat X.K n te) := by
  refine ⟨fun pins s σ H Q I h => attr_of hb (thn (he.run pins s σ H _ I h) fun u s1 hh => ?_)⟩
  obtain ⟨x, H1, I1, rx, a, C, dd, fs, v, B, nw, bmB, mid, rfl, XC, hno, h1, h2, l, q⟩ := hh
  cases (show u = Value.ref a from rx)
  obtain ⟨t1, g1⟩ := exo_at I1.hok h1
  obtain ⟨mA, hns, hr⟩ := exd_at I1.hok h2
  obtain ⟨od, ho, hl⟩ := lookIn_ns hns
  obtain ⟨u, hu, ru⟩ := RelO.some_of (v := v) (o := mA n) (by rw [← l]; exact hr n)
  have J : PySem.W.InstAt s1.heap a _ C (some od) := ⟨g1, rfl, rfl, ho⟩
  exact HandSPX.exc_get I1.kIn J XC.ga XC.gg XC.base (PySem.W.findObj_own XC.dct hno rfl (by rw [hl, hu])) (handed_of ru) ⟨v, H1, I1.tok _, ru, q⟩
end
end My

set_option Elab.async false
set_option maxRecDepth 100000
set_option maxHeartbeats 4000000
namespace My
open PySem PySem.Spec PyProof.Rows L2 Builtin Builtin.ObjectAttr
section
variable {X : Cx} {pins : List (Addr × Obj)} {σ : L2.St} {H : Hp} {s : Shared} {C : Addr} {B nw : String} {bmB mid : List Value}
/-- self.f = y, the first of an exception: its dict is made -/
theorem xst_ok {a : Addr} {f : Str} {y : V} {u : Value} {SB : String} {Q : Unit → Shared → Prop} {E : Value → Shared → Prop} {A : Around} (XC : XCls X.K C B nw bmB mid) (SF : StoreFacts SB bmB "object.__setattr__" "object") (I : Inv X pins σ H s) (e : H a = some (exo a C none))
    (hno : PySem.W.findIn X.K (.ref C) f = some none) (ry : RelV y u)
    (h : ∀ dx s', H dx = none → dx ≠ a → Inv X pins σ (upd (upd (upd H dx (exd dx [])) a (exo a C (some dx))) dx (exd dx [(f, y)])) s' → Q () s') : wpAny (model X.prog X.w) A (setAttr (.ref a) f u) Q E s := by
  obtain ⟨t1, ho⟩ := exo_at I.hok e
  obtain ⟨cd, hc, hm, hd⟩ := XC.cl
  refine PySem.W.set_plain I.kIn (ox := xob C t1) (od := none) ⟨ho, rfl, rfl, trivial⟩ XC.sa ?_
  refine PySem.W.osa_openX (od := none) SF I.kIn ⟨ho, rfl, rfl, trivial⟩ XC.over (r := none) (by unfold PySem.W.takerIn; rw [hno]; rfl) fun b => ?_
  have hnd : H s.heap.objs.size = none := I.hok.fresh (Nat.le_refl _)
  have has : s.heap.objs.size ≠ a := Nat.ne_of_gt (Heap.lt_size ho)
  refine wpAny_bind (wpAny_pure (wpAny_bind (PySem.W.instanceDict_exc (c2 := .none) ho (PySem.W.looks_clsIn I.kIn hc) hd (?_ : wpAny _ _ (storeInDict s.heap.objs.size (.str f _) f u) _ _ _))))
  -- the dict is laid
  have k1 : ∀ b u, s.heap.get? b = some u → (s.heap.push (PySem.W.dictOf [] 0)).get? b = some u := fun b u q => Heap.get?_push_of_some _ q
  have n1 : (s.heap.push (PySem.W.dictOf [] 0)).Ns s.heap.objs.size (fun _ => none) := ⟨_, #[], _, Heap.get?_push_size _ rfl, rfl, fun e he => absurd he (by simp), fun _ => rfl⟩
  have I1 : Inv X pins σ (upd H s.heap.objs.size (exd s.heap.objs.size [])) { s with heap := s.heap.push (PySem.W.dictOf [] 0), toks := s.toks } := I.laid k1 (Nat.le_refl _) (exd_ok (Heap.Ns1.of_empty n1) fun _ => trivial)
  -- the object takes it
  have g2 : ((s.heap.push (PySem.W.dictOf [] 0)).update a fun o => { o with dict := some s.heap.objs.size }).get? a = some { cls := .ref C, dict := some s.heap.objs.size, data := .fields #[.ref t1, .none, .none, .none, .bool false, .none] } := Heap.get?_update_self _ (k1 _ _ ho) rfl
  have I2 := I1.write (t' := s.toks) (x := a) (e := a) (o := exo a C (some s.heap.objs.size)) (by rw [upd_ne has.symm, e]; exact True.intro) (.inl rfl) (fun b u hb q => (Heap.get?_update_other _ _ (Ne.symm hb)).trans q) ⟨_, g2⟩ (exo_ok g2)
  have n2 : ((s.heap.push (PySem.W.dictOf [] 0)).update a fun o => { o with dict := some s.heap.objs.size }).Ns s.heap.objs.size (fun _ => none) := ⟨_, #[], _, (Heap.get?_update_other _ _ has.symm).trans (Heap.get?_push_size _ rfl), rfl, fun e he => absurd he (by simp), fun _ => rfl⟩
  refine HandSPX.store_in_new n2 fun h' tk' hn' hs => ?_
  have g3 : ∃ o, h'.get? s.heap.objs.size = some o := by
    obtain ⟨o, _, _, q, _⟩ := hn'
    exact ⟨o, q⟩
  have I3 := I2.write (h' := h') (t' := tk') (x := s.heap.objs.size) (e := s.heap.objs.size) (o := exd s.heap.objs.size [(f, y)]) (by rw [upd_ne has, upd_same]; exact True.intro) (.inl rfl) (fun b u hb q => (hs.2 b hb).trans q) g3
    (exd_ok hn' (relO_put (fs := []) ry fun _ => trivial))
  exact h _ _ hnd has I3
end
/-- self.f = e -/
def tXst (K : PySem.W.Frag) (f : Str) (to te : TE) : TS := fun D σ H => te σ H fun y H1 => to σ H1 fun x H2 => ∃ (a C : Addr) (B nw SB : String) (bmB mid : List Value), x = .ref a ∧ XCls K C B nw bmB mid ∧ StoreFacts SB bmB "object.__setattr__" "object" ∧ PySem.W.findIn K (.ref C) f = some none ∧
  H2 a = some (exo a C none) ∧ ∀ dx, H2 dx = none → dx ≠ a → D.nx σ (upd (upd (upd H2 dx (exd dx [])) a (exo a C (some dx))) dx (exd dx [(f, y)]))
section
variable {X : Cx} {o e : Expr} {es : List Expr} {to te : TE} {ta tk : TA} {f : Str} {p p' pos : Pos} {kws : List Keyword}
theorem ps_xst (ho : PE X o to) (he : PE X e te) (hs : swapsWith e (some (.Attribute o f p')) pos.line X.env = pure false := by rfl) : PS X (.Assign [.Attribute o f p'] e pos) (tXst X.K f to te) := by
  refine ⟨fun pins s σ H D I h => plainObj_wpAny_Assign_Attribute (thn (he.run pins s σ H _ I h) fun v s1 ⟨y, H1, I1, r1, q1⟩ => thn (ho.run pins s1 σ H1 _ I1 q1) fun u s2 z => ?_) hs⟩
  obtain ⟨x, H2, I2, r2, a, C, B, nw, SB, bmB, mid, rfl, XC, SF, hno, ea, q⟩ := z
  cases (show u = Value.ref a from r2)
  exact xst_ok XC SF I2 ea hno r1 fun dx s' n ne J => ⟨σ, _, J, q dx n ne⟩
/-- C(e, ..), C(k = e): a new exception, then the class's own __init__ -/
def tXmk (C : Addr) (sp : Sp) (t tk : TA) : TE := fun σ H Q => t σ H fun vs H1 => tk σ H1 fun zs H2 => vs.length + zs.length = 1 ∧ ∀ a, H2 a = none → sp (.ref a :: (vs ++ zs)) (upd H2 a (exo a C none)) (fun v H3 => v = .non ∧ Q (.ref a) H3) E0
end
section
variable {X : Cx} {pins : List (Addr × Obj)} {σ : L2.St} {H : Hp} {s : Shared} {C : Addr} {B nw iw : String} {bmB bm0 mid : List Value}
theorem run_xmk {fI : Addr} {k : Nat} {fd : FuncData} {ps : List Str} {sp : Sp} {Q : VK} {us : List Value} {kw : List (Str × Value)} {vs : List V} (XC : XCls X.K C B nw bmB mid) (F : ExcBaseFacts B nw iw bm0) (iC : PySem.W.findIn X.K (.ref C) "__init__" = some (some (.ref fI))) (tI : PySem.W.typeIn X.K (.ref fI) = some (.type "function"))
    (F1 : FnOk X.prog X.w X.K X.mg X.base CX0 k fI fd ps sp) (hr : Room (k + 1) X.A) (I : Inv X pins σ H s) (ws : List Value) (hb : ∀ (s : Shared) (self : Value), X.K.In s.heap → BindsTo s fd ⟨self :: us, kw⟩ (ps.zip (self :: ws))) (hz : us.length ≤ sizeLine) (rv : Vals vs ws)
    (h : ∀ a, H a = none → sp (.ref a :: vs) (upd H a (exo a C none)) (fun v H3 => v = .non ∧ Q (.ref a) H3) E0) : wpAny (model X.prog X.w) X.A (call (.ref C) us kw) (EP X pins σ Q) X.xe s := by
  obtain ⟨nm, q, N, bs, sn, sub, ab, col, dd, k0, k1, k2, k3, k5, hC⟩ := XC.lk
  obtain ⟨hp, g, dr, tk, os⟩ := s
  have hsz : hp.objs.size ≤ hp.objs.size + 1 := Nat.le_succ _
  have kk : ∀ b o, hp.get? b = some o → ((hp.push (xtp us)).push (xob C hp.objs.size)).get? b = some o := fun b o e => Heap.get?_push_of_some _ (Heap.get?_push_of_some _ e)
  have hget : ((hp.push (xtp us)).push (xob C hp.objs.size)).get? (hp.objs.size + 1) = some (xob C hp.objs.size) := by heap_get
  have I2 : Inv X pins σ (upd H (hp.objs.size + 1) (exo (hp.objs.size + 1) C none)) ⟨(hp.push (xtp us)).push (xob C hp.objs.size), g, dr, tk, os⟩ := I.laid (t' := tk) (h' := (hp.push (xtp us)).push (xob C hp.objs.size)) kk hsz (exo_ok hget)
  have hq := h (hp.objs.size + 1) (I.hok.fresh hsz)
  refine wpAny_call (run_call F XC.m (I.kIn _ _ hC) (PySem.W.looks_findIn I.kIn iC) (fun self => PySem.W.bind_fn I.kIn self tI) hz
    (codeAny_mono (F1.run _ X.stack _ _ ⟨Value.ref (hp.objs.size + 1) :: us, kw⟩ (Value.ref (hp.objs.size + 1) :: ws) _ _ E0 (hr.make C us kw) (I2.env0.make C us kw) (hb _ _ I2.kIn) (.cons (show L2.RelV (V.ref (hp.objs.size + 1)) (Value.ref (hp.objs.size + 1)) from rfl) rv) hq) fun r s' hq' => ?_))
  cases r with
  | error er => exact (hq' : False).elim
  | ok fl =>
    cases fl with
    | ret u =>
      obtain ⟨v, H', I3, rv', ev, q3⟩ := I2.after hq'
      subst ev
      exact ⟨rv', ⟨V.ref (hp.objs.size + 1), H', I3, rfl, q3⟩⟩
    | next => exact False.elim hq'
    | brk => exact False.elim hq'
    | cont => exact False.elim hq'
end
end My

set_option Elab.async false
set_option maxRecDepth 100000
set_option maxHeartbeats 4000000
namespace My
open PySem PySem.Spec PyProof.Rows L2
section
variable {X : Cx} {C fI : Addr} {B nw iw : String} {bmB bm0 mid : List Value} {k : Nat} {fd : FuncData} {ps : List Str} {sp : Sp} {x : Str} {p pos : Pos} {e : Expr} {es : List Expr} {kws : List Keyword} {t tk : TA}
/-- C(e), C with its own __init__ -/
def tX1 (C : Addr) (sp : Sp) (t : TA) : TE := fun σ H Q => t σ H fun vs H1 => vs.length ≤ 1000 ∧ ∀ a, H1 a = none → sp (.ref a :: vs) (upd H1 a (exo a C none)) (fun v H3 => v = .non ∧ Q (.ref a) H3) E0
theorem pe_x1 (XC : XCls X.K C B nw bmB mid) (F : ExcBaseFacts B nw iw bm0) (iC : PySem.W.findIn X.K (.ref C) "__init__" = some (some (.ref fI))) (tI : PySem.W.typeIn X.K (.ref fI) = some (.type "function")) (F1 : FnOk X.prog X.w X.K X.mg X.base CX0 k fI fd ps sp) (hr : Room (k + 1) X.A)
    (hb : Binds X.K fd ps []) (hg : Gl X x) (hm : X.mg x = some (.ref C)) (ha : PA X (e :: es) t) (hdb : (x == ("__debug__" : Str)) = false := by decide) (he : starEach (e :: es) X.env = (false, eval e X.env) :: starEach es X.env := by rfl)
    (hpl : (backTo pos (starEach es X.env)).any (·.1) = false := by rfl) : PE X (.Call (.Name x p) (e :: es) [] pos) (tX1 C sp t) := by
  refine ⟨fun pins s σ H Q I h => wpAny_Call_Name_kw (ld_glob I hg hm ?_ hdb)⟩
  refine PySem.W.callWith_K (h₀ := X.base) I.ok.mod.kin XC.kp (thn (ha.run pos pins s σ H _ I h) fun us s1 ⟨vs, H1, I1, r1, hz, q1⟩ => ⟨I1.kIn, (?_ : wpAny _ _ (call (.ref C) us) _ _ _)⟩) he hpl
  refine run_xmk (kw := []) XC F iC tI F1 hr I1 us (fun s self kin => ?_) (by rw [← Paired.length r1, sizeLine_eq]; omega) r1 q1
  have hl : (self :: us).length = ps.length := by
    have z := F1.len _ _ _ _ (q1 s1.heap.objs.size (I1.hok.fresh (Nat.le_refl _)))
    rw [← z, List.length_cons, List.length_cons, Paired.length r1]
  have q := hb s (self :: us) kin (by rw [List.append_nil]; exact hl)
  rw [List.append_nil] at q
  exact q
/-- C(kn = e) -/
theorem pe_xk {kn : Str} {kp : Pos} {te : TE} (XC : XCls X.K C B nw bmB mid) (F : ExcBaseFacts B nw iw bm0) (iC : PySem.W.findIn X.K (.ref C) "__init__" = some (some (.ref fI))) (tI : PySem.W.typeIn X.K (.ref fI) = some (.type "function")) (F1 : FnOk X.prog X.w X.K X.mg X.base CX0 k fI fd ["self", kn] sp) (hr : Room (k + 1) X.A)
    (hb : ∀ (s : Shared) (self v : Value), BindsTo s fd ⟨[self], [(kn, v)]⟩ [("self", self), (kn, v)]) (hg : Gl X x) (hm : X.mg x = some (.ref C)) (ha : PE X e te) (hdb : (x == ("__debug__" : Str)) = false := by decide)
    (hall : (backToKw pos (keywordEach [⟨some kn, e, kp⟩] X.env)).all (·.1.isSome) = true := by rfl) (hks : (backToKw pos (keywordEach [⟨some kn, e, kp⟩] X.env)).filterMap (·.1) = [kn] := by rfl)
    (hpl : (backToKw pos (keywordEach [⟨some kn, e, kp⟩] X.env)).any (·.1.isNone) = false := by rfl) : PE X (.Call (.Name x p) [] [⟨some kn, e, kp⟩] pos) (tX1 C sp (tCons te tNil)) := by
  refine ⟨fun pins s σ H Q I h => wpAny_Call_Name_kw (ld_glob I hg hm ?_ hdb)⟩
  have hkw : PK X [⟨some kn, e, kp⟩] (tCons te tNil) := pk_cons ha pk_nil
  refine PySem.W.callWith_KW0 (h₀ := X.base) I.ok.mod.kin XC.kp hall (thn (hkw.run pos pins s σ H _ I h) fun ws s1 ⟨zs, H1, I1, rz, hz, q1⟩ => ⟨I1.kIn, ?_⟩) hpl
  rw [hks]
  have hl := F1.len _ _ _ _ (q1 s1.heap.objs.size (I1.hok.fresh (Nat.le_refl _)))
  obtain ⟨z, rfl⟩ : ∃ z, zs = [z] := by
    cases zs with
    | nil => simp at hl
    | cons z r =>
      cases r with
      | nil => exact ⟨z, rfl⟩
      | cons z2 r2 => simp at hl
  cases rz with
  | @cons _ w1 _ wr r1 r2 =>
    cases r2
    show wpAny _ _ (call (.ref C) [] [(kn, w1)]) _ _ _
    refine run_xmk (us := []) (kw := [(kn, w1)]) (vs := [z]) XC F iC tI F1 hr I1 [w1] (fun s self _ => ?_) (Nat.zero_le _) (.cons r1 .nil) q1
    exact hb s self w1
/-- C(), C without an __init__ -/
theorem pe_x0 (F : ExcBaseFacts B nw iw bmB) (q : PySem.W.excIn X.K C bmB nw = true) (kC : PySem.W.keepIn X.K (.ref C) = true) (hg : Gl X x) (hm : X.mg x = some (.ref C)) (hdb : (x == ("__debug__" : Str)) = false := by decide) :
    PE X (.Call (.Name x p) [] [] pos) (fun _ H Q => ∀ a, H a = none → Q (.ref a) (upd H a (exo a C none))) := by
  refine ⟨fun pins s σ H Q I h => wpAny_Call_Name_kw (ld_glob I hg hm ?_ hdb)⟩
  refine PySem.W.callWith_K0 I.kIn kC (?_ : wpAny _ _ (call (.ref C) []) _ _ _)
  obtain ⟨bm, N, nm, qn, bs, hdct, sn, sub, ab, col, dd, k0, k1, k2, k3, k5, mN, hC, hN, hni, T⟩ := exc_obj I.kIn q
  refine wpAny_call_exc_subT F T hC hN hni (fun h' a hm' => ?_) (by show 0 ≤ sizeLine; rw [sizeLine_eq]; omega)
  have hn : H a = none := I.hok.gone hm'.new
  obtain ⟨t, ht, _, _⟩ := hm'.there
  exact ⟨.ref a, upd H a (exo a C none), I.laidN hm'.keeps hm'.new hn (exo_ok ht), rfl, h a hn⟩
end
end My

set_option Elab.async false
set_option maxRecDepth 100000
set_option maxHeartbeats 4000000
namespace My
open PySem L2
abbrev VE : List Value := [.type "ValueError", .type "Exception", .type "BaseException", .type "object"]
abbrev KEt : List Value := [.type "KeyError", .type "LookupError", .type "Exception", .type "BaseException", .type "object"]
abbrev IEt : List Value := [.type "IndexError", .type "LookupError", .type "Exception", .type "BaseException", .type "object"]
theorem stKey : StoreFacts "KeyError" KEt "object.__setattr__" "object" := { mro := by kernel_rfl, slot := .of (owner := "object") (n := "__setattr__") (by rw [typeLookup_type, builtinLookup_eq_fast]; kernel_rfl) (by decide +kernel) (by decide +kernel) (by decide +kernel) (by first | exact .inl (by decide +kernel) | exact .inr (by decide +kernel)) (by rw [isSubtype_type]; kernel_rfl), entry := F.entry_object_sa, kind := by decide +kernel, split := by decide +kernel, hasOwner := by decide +kernel, args := fun a b c => by unfold argsOk; kernel_rfl, passes := fun self => by kernel_rfl }
/-- __init__(self, v): the exception takes its field -/
def spInit (K : PySem.W.Frag) (C : Addr) (fld : Str) : Sp := fun vs H Q _ => ∃ (a : Addr) (v : V), vs = [.ref a, v] ∧ H a = some (exo a C none) ∧ PySem.W.findIn K (.ref C) fld = some none ∧
  ∀ dx, H dx = none → dx ≠ a → Q .non (upd (upd (upd H dx (exd dx [])) a (exo a C (some dx))) dx (exd dx [(fld, v)]))
section
variable {P : Program} {w : World} {K : PySem.W.Frag} {mg : Str → Option Value} {base : Heap}
abbrev sIK : Stmt := inClass (top 2) 0
theorem scIK : FnScope ["self", "word"] ["self", "word"] (defScope sIK) := ⟨rfl, rfl, rfl, by decide +kernel, rfl, by decide +kernel, by decide +kernel⟩
theorem ok_IK {f C : Addr} {fd : FuncData} {B nw SB : String} {bmB mid : List Value} (F : Fun K "__init__" "InvalidKind.__init__" sIK f fd) (X : XCls K C B nw bmB mid) (SF : StoreFacts SB bmB "object.__setattr__" "object") : FnOk P w K mg base CX0 1 f fd ["self", "word"] (spInit K C "word") := by
  refine F.ok scIK (fun vs H Q E ⟨a, v, e, _⟩ => by rw [e]; rfl) (fun cdv A outer s H vs Q E hr ⟨a, v, e, h1, h2, k⟩ => ?_)
  subst e
  exact ⟨_, pss_one (ps_xst (pv 0) (pv 1)), _, rfl, _, rfl, a, C, B, nw, SB, bmB, mid, rfl, X, SF, h2, h1, fun dx n m => k dx n m⟩
abbrev sIR : Stmt := inClass (top 3) 0
theorem scIR : FnScope ["self", "word"] ["self", "word"] (defScope sIR) := ⟨rfl, rfl, rfl, by decide +kernel, rfl, by decide +kernel, by decide +kernel⟩
theorem ok_IR {f C : Addr} {fd : FuncData} {B nw SB : String} {bmB mid : List Value} (F : Fun K "__init__" "InvalidReader.__init__" sIR f fd) (X : XCls K C B nw bmB mid) (SF : StoreFacts SB bmB "object.__setattr__" "object") : FnOk P w K mg base CX0 1 f fd ["self", "word"] (spInit K C "word") := by
  refine F.ok scIR (fun vs H Q E ⟨a, v, e, _⟩ => by rw [e]; rfl) (fun cdv A outer s H vs Q E hr ⟨a, v, e, h1, h2, k⟩ => ?_)
  subst e
  exact ⟨_, pss_one (ps_xst (pv 0) (pv 1)), _, rfl, _, rfl, a, C, B, nw, SB, bmB, mid, rfl, X, SF, h2, h1, fun dx n m => k dx n m⟩
abbrev sID : Stmt := inClass (top 4) 0
theorem scID : FnScope ["self", "word"] ["self", "word"] (defScope sID) := ⟨rfl, rfl, rfl, by decide +kernel, rfl, by decide +kernel, by decide +kernel⟩
theorem ok_ID {f C : Addr} {fd : FuncData} {B nw SB : String} {bmB mid : List Value} (F : Fun K "__init__" "InvalidDesign.__init__" sID f fd) (X : XCls K C B nw bmB mid) (SF : StoreFacts SB bmB "object.__setattr__" "object") : FnOk P w K mg base CX0 1 f fd ["self", "word"] (spInit K C "word") := by
  refine F.ok scID (fun vs H Q E ⟨a, v, e, _⟩ => by rw [e]; rfl) (fun cdv A outer s H vs Q E hr ⟨a, v, e, h1, h2, k⟩ => ?_)
  subst e
  exact ⟨_, pss_one (ps_xst (pv 0) (pv 1)), _, rfl, _, rfl, a, C, B, nw, SB, bmB, mid, rfl, X, SF, h2, h1, fun dx n m => k dx n m⟩
abbrev sIC : Stmt := inClass (top 10) 0
theorem scIC : FnScope ["self", "word"] ["self", "word"] (defScope sIC) := ⟨rfl, rfl, rfl, by decide +kernel, rfl, by decide +kernel, by decide +kernel⟩
theorem ok_IC {f C : Addr} {fd : FuncData} {B nw SB : String} {bmB mid : List Value} (F : Fun K "__init__" "InvalidChange.__init__" sIC f fd) (X : XCls K C B nw bmB mid) (SF : StoreFacts SB bmB "object.__setattr__" "object") : FnOk P w K mg base CX0 1 f fd ["self", "word"] (spInit K C "word") := by
  refine F.ok scIC (fun vs H Q E ⟨a, v, e, _⟩ => by rw [e]; rfl) (fun cdv A outer s H vs Q E hr ⟨a, v, e, h1, h2, k⟩ => ?_)
  subst e
  exact ⟨_, pss_one (ps_xst (pv 0) (pv 1)), _, rfl, _, rfl, a, C, B, nw, SB, bmB, mid, rfl, X, SF, h2, h1, fun dx n m => k dx n m⟩
abbrev sIT : Stmt := inClass (top 5) 0
theorem scIT : FnScope ["self", "at"] ["self", "at"] (defScope sIT) := ⟨rfl, rfl, rfl, by decide +kernel, rfl, by decide +kernel, by decide +kernel⟩
theorem ok_IT {f C : Addr} {fd : FuncData} {B nw SB : String} {bmB mid : List Value} (F : Fun K "__init__" "InvalidText.__init__" sIT f fd) (X : XCls K C B nw bmB mid) (SF : StoreFacts SB bmB "object.__setattr__" "object") : FnOk P w K mg base CX0 1 f fd ["self", "at"] (spInit K C "at") := by
  refine F.ok scIT (fun vs H Q E ⟨a, v, e, _⟩ => by rw [e]; rfl) (fun cdv A outer s H vs Q E hr ⟨a, v, e, h1, h2, k⟩ => ?_)
  subst e
  exact ⟨_, pss_one (ps_xst (pv 0) (pv 1)), _, rfl, _, rfl, a, C, B, nw, SB, bmB, mid, rfl, X, SF, h2, h1, fun dx n m => k dx n m⟩
abbrev sIE : Stmt := inClass (top 6) 0
theorem scIE : FnScope ["self", "at"] ["self", "at"] (defScope sIE) := ⟨rfl, rfl, rfl, by decide +kernel, rfl, by decide +kernel, by decide +kernel⟩
theorem ok_IE {f C : Addr} {fd : FuncData} {B nw SB : String} {bmB mid : List Value} (F : Fun K "__init__" "InvalidEvent.__init__" sIE f fd) (X : XCls K C B nw bmB mid) (SF : StoreFacts SB bmB "object.__setattr__" "object") : FnOk P w K mg base CX0 1 f fd ["self", "at"] (spInit K C "at") := by
  refine F.ok scIE (fun vs H Q E ⟨a, v, e, _⟩ => by rw [e]; rfl) (fun cdv A outer s H vs Q E hr ⟨a, v, e, h1, h2, k⟩ => ?_)
  subst e
  exact ⟨_, pss_one (ps_xst (pv 0) (pv 1)), _, rfl, _, rfl, a, C, B, nw, SB, bmB, mid, rfl, X, SF, h2, h1, fun dx n m => k dx n m⟩
abbrev sIG : Stmt := inClass (top 9) 0
theorem scIG : FnScope ["self", "at"] ["self", "at"] (defScope sIG) := ⟨rfl, rfl, rfl, by decide +kernel, rfl, by decide +kernel, by decide +kernel⟩
theorem ok_IG {f C : Addr} {fd : FuncData} {B nw SB : String} {bmB mid : List Value} (F : Fun K "__init__" "InvalidLog.__init__" sIG f fd) (X : XCls K C B nw bmB mid) (SF : StoreFacts SB bmB "object.__setattr__" "object") : FnOk P w K mg base CX0 1 f fd ["self", "at"] (spInit K C "at") := by
  refine F.ok scIG (fun vs H Q E ⟨a, v, e, _⟩ => by rw [e]; rfl) (fun cdv A outer s H vs Q E hr ⟨a, v, e, h1, h2, k⟩ => ?_)
  subst e
  exact ⟨_, pss_one (ps_xst (pv 0) (pv 1)), _, rfl, _, rfl, a, C, B, nw, SB, bmB, mid, rfl, X, SF, h2, h1, fun dx n m => k dx n m⟩
abbrev sIF : Stmt := inClass (top 12) 0
theorem scIF : FnScope ["self", "at"] ["self", "at"] (defScope sIF) := ⟨rfl, rfl, rfl, by decide +kernel, rfl, by decide +kernel, by decide +kernel⟩
theorem ok_IF {f C : Addr} {fd : FuncData} {B nw SB : String} {bmB mid : List Value} (F : Fun K "__init__" "Refused.__init__" sIF f fd) (X : XCls K C B nw bmB mid) (SF : StoreFacts SB bmB "object.__setattr__" "object") : FnOk P w K mg base CX0 1 f fd ["self", "at"] (spInit K C "at") := by
  refine F.ok scIF (fun vs H Q E ⟨a, v, e, _⟩ => by rw [e]; rfl) (fun cdv A outer s H vs Q E hr ⟨a, v, e, h1, h2, k⟩ => ?_)
  subst e
  exact ⟨_, pss_one (ps_xst (pv 0) (pv 1)), _, rfl, _, rfl, a, C, B, nw, SB, bmB, mid, rfl, X, SF, h2, h1, fun dx n m => k dx n m⟩
abbrev sIN : Stmt := inClass (top 13) 0
theorem scIN : FnScope ["self", "name"] ["self", "name"] (defScope sIN) := ⟨rfl, rfl, rfl, by decide +kernel, rfl, by decide +kernel, by decide +kernel⟩
theorem ok_IN {f C : Addr} {fd : FuncData} {B nw SB : String} {bmB mid : List Value} (F : Fun K "__init__" "NoName.__init__" sIN f fd) (X : XCls K C B nw bmB mid) (SF : StoreFacts SB bmB "object.__setattr__" "object") : FnOk P w K mg base CX0 1 f fd ["self", "name"] (spInit K C "name") := by
  refine F.ok scIN (fun vs H Q E ⟨a, v, e, _⟩ => by rw [e]; rfl) (fun cdv A outer s H vs Q E hr ⟨a, v, e, h1, h2, k⟩ => ?_)
  subst e
  exact ⟨_, pss_one (ps_xst (pv 0) (pv 1)), _, rfl, _, rfl, a, C, B, nw, SB, bmB, mid, rfl, X, SF, h2, h1, fun dx n m => k dx n m⟩
abbrev sIS : Stmt := inClass (top 14) 0
theorem scIS : FnScope ["self", "at"] ["self", "at"] (defScope sIS) := ⟨rfl, rfl, rfl, by decide +kernel, rfl, by decide +kernel, by decide +kernel⟩
theorem ok_IS {f C : Addr} {fd : FuncData} {B nw SB : String} {bmB mid : List Value} (F : Fun K "__init__" "NoStep.__init__" sIS f fd) (X : XCls K C B nw bmB mid) (SF : StoreFacts SB bmB "object.__setattr__" "object") : FnOk P w K mg base CX0 1 f fd ["self", "at"] (spInit K C "at") := by
  refine F.ok scIS (fun vs H Q E ⟨a, v, e, _⟩ => by rw [e]; rfl) (fun cdv A outer s H vs Q E hr ⟨a, v, e, h1, h2, k⟩ => ?_)
  subst e
  exact ⟨_, pss_one (ps_xst (pv 0) (pv 1)), _, rfl, _, rfl, a, C, B, nw, SB, bmB, mid, rfl, X, SF, h2, h1, fun dx n m => k dx n m⟩
end
end My

set_option Elab.async false
set_option maxRecDepth 100000
set_option maxHeartbeats 4000000
namespace My
open PySem L2
abbrev sSame : Stmt := top 20
abbrev sLaw : Stmt := top 21
/-- what lies in the heap but at th is as it was -/
def Bt (th : Addr) (H H' : Hp) : Prop := ∀ b o, H b = some o → b ≠ th → H' b = some o
theorem Bt.refl {th : Addr} (H : Hp) : Bt th H H := fun _ _ h _ => h
/-- an exception that holds v in its field -/
def Has (K : PySem.W.Frag) (H : Hp) (e C : Addr) (fld : Str) (v : V) : Prop := ∃ (dd : Addr) (B nw : String) (bmB mid : List Value), XCls K C B nw bmB mid ∧ PySem.W.findIn K (.ref C) fld = some none ∧ H e = some (exo e C (some dd)) ∧ H dd = some (exd dd [(fld, v)])
/-- _law_same_thing(made, form, thing) -/
def spSame (K : PySem.W.Frag) : Sp := fun vs H Q _ => ∃ (e C th : Addr) (fld : Str) (xs : List V), vs = [.ref e, .str fld, .ref th] ∧ Has K H e C fld (.ref th) ∧ (fld = "word" ∨ fld = "at" ∨ fld = "name") ∧ H th = some (.lst xs) ∧ xs.length < 1000 ∧
  ∀ H', Bt th H H' → H' th = some (.lst (xs ++ [.int 0])) → Q (.bl true) H'
theorem at_ne_word : ¬ (("at" : Str) = "word") := by decide +kernel
theorem name_ne_word : ¬ (("name" : Str) = "word") := by decide +kernel
theorem name_ne_at : ¬ (("name" : Str) = "at") := by decide +kernel
section
variable {P : Program} {w : World} {K : PySem.W.Frag} {mg : Str → Option Value} {base : Heap}
theorem scSame : FnScope ["made", "form", "thing", "kept", "before"] ["made", "form", "thing"] (defScope sSame) := ⟨rfl, rfl, rfl, by decide +kernel, rfl, by decide +kernel, by decide +kernel⟩
theorem ok_same {f : Addr} {fd : FuncData} (F : Fun K "_law_same_thing" "_law_same_thing" sSame f fd) (ml : mg "len" = none) : FnOk P w K mg base CX0 1 f fd ["made", "form", "thing"] (spSame K) := by
  refine F.ok scSame (fun vs H Q E h => ?_) (fun cdv A outer s H vs Q E hr h => ?_)
  · obtain ⟨e, C, th, fld, xs, rfl, _⟩ := h
    rfl
  obtain ⟨e, C, th, fld, xs, rfl, ⟨dd, B, nw, bmB, mid, XC, hno, h1, h2⟩, hf, h3, h4, k⟩ := h
  refine ⟨_, pss_cons (ps_set (i := 3) scSame.nd rfl (.inl rfl) (pe_ifExp (pt_cmpR op_eq (pv 1) pe_str (nomark _)) (pe_xat (pv 0)) (pe_ifExp (pt_cmpR op_eq (pv 1) pe_str (nomark _)) (pe_xat (pv 0)) (pe_xat (pv 0)))))
    (pss_cons (ps_set (i := 4) scSame.nd rfl (.inl rfl) (pe_callB call_len_seq rfl ml PySem.boot_len (pa_cons (pv 3) pa_nil)))
    (pss_cons (ps_expr (pe_bm PySem.F.plainAttrs_list PySem.F.slot_list_append PySem.F.type_list_append mt_append (pv 2) (pa_cons pe_int pa_nil)))
    (pss_one (ps_ret (pe_cmpR op_eq (pe_callB call_len_seq rfl ml PySem.boot_len (pa_cons (pv 3) pa_nil)) (pe_op op_add (pv 4) pe_int) (nomark _)))))), ?_⟩
  refine seq_first (fun σ H1 => σ = [some (.ref e), some (.str fld), some (.ref th), some (.ref th), none] ∧ H1 = H) ?rest fun rest => ?first
  case first =>
    refine ⟨_, rfl, rfl, _, rfl, ?_⟩
    rcases hf with rfl | rfl | rfl
    · rw [decide_eq_true rfl]
      exact ⟨_, rfl, e, C, dd, _, _, B, nw, bmB, mid, rfl, XC, hno, h1, h2, by simp [List.lookup], rest _ _ ⟨rfl, rfl⟩⟩
    · rw [decide_eq_false (fun z => at_ne_word (V.str.inj z))]
      refine ⟨_, rfl, rfl, _, rfl, ?_⟩
      rw [decide_eq_true rfl]
      exact ⟨_, rfl, e, C, dd, _, _, B, nw, bmB, mid, rfl, XC, hno, h1, h2, by simp [List.lookup], rest _ _ ⟨rfl, rfl⟩⟩
    · rw [decide_eq_false (fun z => name_ne_word (V.str.inj z))]
      refine ⟨_, rfl, rfl, _, rfl, ?_⟩
      rw [decide_eq_false (fun z => name_ne_at (V.str.inj z))]
      exact ⟨_, rfl, e, C, dd, _, _, B, nw, bmB, mid, rfl, XC, hno, h1, h2, by simp [List.lookup], rest _ _ ⟨rfl, rfl⟩⟩
  case rest =>
    rintro σ H1 ⟨rfl, rfl⟩
    refine ⟨_, rfl, th, xs, rfl, .inl (SqL.of h3), ?_⟩
    refine ⟨_, rfl, .inl ⟨rfl, _, SqL.of h3⟩, th, xs, _, rfl, rfl, h3, small1000 (by omega), ?_⟩
    refine ⟨_, rfl, th, _, rfl, .inl (SqL.of upd_same), _, rfl, _, _, rfl, rfl, rfl, ?_⟩
    have ed : decide (V.int ((xs ++ [V.int 0]).length : Nat) = V.int ((xs.length : Int) + 1)) = true := decide_eq_true (by rw [List.length_append, List.length_singleton]; rfl)
    rw [ed]
    exact k _ (fun b o h n => by rw [upd_ne n]; exact h) upd_same
end
end My

set_option Elab.async false
set_option maxRecDepth 100000
set_option maxHeartbeats 4000000
/-! The law of the errors: what its lines read, one lemma a line. -/
namespace My
open PySem L2
/-! ### the frame's own words -/
theorem wipe1 {σ : St} {i : Nat} {x : V} : wipe ((wipe σ [i]).set i (some x)) [i] = wipe σ [i] := by
  show ((σ.set i none).set i (some x)).set i none = σ.set i none
  rw [List.set_set, List.set_set]
theorem wipe_at {σ : St} {i : Nat} {x : V} (h : i < σ.length) : ((wipe σ [i]).set i (some x))[i]? = some (some x) := by
  show ((σ.set i none).set i (some x))[i]? = some (some x)
  rw [List.getElem?_set_self (by rw [List.length_set]; exact h)]
theorem bools_at {bs : List Bool} {i : Nat} {x : V} (h : (bs.map V.bl)[i]? = some x) : ∃ b, bs[i]? = some b ∧ x = V.bl b := by
  rw [List.getElem?_map] at h
  cases e : bs[i]? with
  | none =>
    rw [e] at h
    cases h
  | some b =>
    rw [e] at h
    exact ⟨b, rfl, (Option.some.inj h).symm⟩
theorem refs_at {es : List Addr} {i : Nat} {x : V} (h : (es.map V.ref)[i]? = some x) : ∃ e, es[i]? = some e ∧ x = V.ref e := by
  rw [List.getElem?_map] at h
  cases e : es[i]? with
  | none =>
    rw [e] at h
    cases h
  | some b =>
    rw [e] at h
    exact ⟨b, rfl, (Option.some.inj h).symm⟩
theorem small100 {n : Nat} (h : n ≤ 100) : n < sizeLine := small1000 (by omega)
/-- how many say yes -/
def cnt (bs : List Bool) : Nat := (bs.filter id).length
theorem cnt_take {bs : List Bool} {i : Nat} {b : Bool} (h : bs[i]? = some b) : cnt (bs.take (i + 1)) = cnt (bs.take i) + (if b = true then 1 else 0) := by
  unfold cnt
  rw [List.take_add_one, h, List.filter_append, List.length_append]
  cases b <;> rfl
theorem cnt_app (as bs : List Bool) : cnt (as ++ bs) = cnt as + cnt bs := by
  unfold cnt
  rw [List.filter_append, List.length_append]
theorem cnt_le (bs : List Bool) : cnt bs ≤ bs.length := List.length_filter_le _ _
theorem cnt_one : ∀ {cs : List Addr} {D : Addr}, cs.Nodup → D ∈ cs → cnt (cs.map fun C => decide (D = C)) = 1
  | [], _, _, h => by cases h
  | c :: r, D, nd, h => by
    have nd' := List.nodup_cons.mp nd
    by_cases e : D = c
    · subst e
      have z : ∀ {l : List Addr}, D ∉ l → cnt (l.map fun C => decide (D = C)) = 0 := by
        intro l
        induction l with
        | nil => intro _; rfl
        | cons x l ih =>
          intro hx
          have n1 : ¬ D = x := fun q => hx (by rw [q]; exact List.mem_cons_self)
          have n2 := ih fun q => hx (List.mem_cons_of_mem _ q)
          show ((decide (D = x) :: (l.map fun C => decide (D = C))).filter id).length = 0
          rw [decide_eq_false n1]
          exact n2
      show ((decide (D = D) :: (r.map fun C => decide (D = C))).filter id).length = 1
      rw [decide_eq_true rfl]
      show ((r.map fun C => decide (D = C)).filter id).length + 1 = 1
      have q := z nd'.1
      unfold cnt at q
      rw [q]
    · have hr : D ∈ r := by
        rcases List.mem_cons.mp h with q | q
        · exact absurd q e
        · exact q
      show ((decide (D = c) :: (r.map fun C => decide (D = C))).filter id).length = 1
      rw [decide_eq_false e]
      exact cnt_one nd'.2 hr

/-! ### one step into a line -/
theorem seq_in {t u : TS} {D : Ends} {σ : St} {H : Hp} (h : t { D with nx := u D } σ H) : tSeq t u D σ H := h
theorem asg_in {te : TE} {g : TG} {D : Ends} {σ : St} {H : Hp} (h : te σ H fun x H1 => g x σ H1 D.nx) : tAsg te g D σ H := h
theorem nm_in {i : Nat} {v : V} {σ : St} {H : Hp} {Q : St → Hp → Prop} (h : Q (σ.set i (some v)) H) : gName i v σ H Q := h
theorem lst_in {t : TA} {σ : St} {H : Hp} {Q : VK} (h : t σ H fun xs H1 => xs.length ≤ sizeLine ∧ ∀ p, H1 p = none → Q (.ref p) (upd H1 p (.lst xs))) : tLst t σ H Q := h
theorem tup_in {t : TA} {σ : St} {H : Hp} {Q : VK} (h : t σ H fun xs H1 => xs.length ≤ sizeLine ∧ ∀ p, H1 p = none → Q (.ref p) (upd H1 p (.tup xs))) : tTup t σ H Q := h
theorem cons_in {ta : TE} {tr : TA} {σ : St} {H : Hp} {Q : List V → Hp → Prop} (h : ta σ H fun x H1 => tr σ H1 fun xs H2 => Q (x :: xs) H2) : tCons ta tr σ H Q := h
theorem op_in {r : R2} {ta tb : TE} {σ : St} {H : Hp} {Q : VK} (h : ta σ H fun x H1 => tb σ H1 fun y H2 => r x y H2 Q) : tOp r ta tb σ H Q := h
section
variable {K : PySem.W.Frag} {H : Hp} {σ : St} {Q : VK}
/-- C(thing), C(field=thing): a new exception that holds it -/
theorem mk1 {C : Addr} {fld : Str} {i : Nat} {v : V} {B nw : String} {bmB mid : List Value} (XC : XCls K C B nw bmB mid) (hv : σ[i]? = some (some v)) (hn : PySem.W.findIn K (.ref C) fld = some none)
    (k : ∀ e H', H e = none → Same H H' → Has K H' e C fld v → Q (.ref e) H') : tX1 C (spInit K C fld) (tCons (tVar i) tNil) σ H Q := by
  refine ⟨v, hv, (by show 1 ≤ 1000; decide), fun e he => ⟨e, v, rfl, upd_same, hn, fun dx hdx hne => ⟨rfl, ?_⟩⟩⟩
  have hd0 : H dx = none := by
    rw [upd_ne hne] at hdx
    exact hdx
  refine k e _ he (fun b o h => ?_) ⟨dx, B, nw, bmB, mid, XC, hn, ?_, upd_same⟩
  · rw [upd_ne (ne_of_none h hd0), upd_ne (ne_of_none h he), upd_ne (ne_of_none h hd0), upd_ne (ne_of_none h he)]
    exact h
  · rw [upd_ne hne.symm, upd_same]
theorem Has.keep {H' : Hp} {e C : Addr} {fld : Str} {v : V} (x : Has K H e C fld v) (s : Same H H') : Has K H' e C fld v := by
  obtain ⟨dd, B, nw, bmB, mid, XC, hn, h1, h2⟩ := x
  exact ⟨dd, B, nw, bmB, mid, XC, hn, s _ _ h1, s _ _ h2⟩
theorem Has.bt {H' : Hp} {e C th : Addr} {xs : List V} {fld : Str} {v : V} (x : Has K H e C fld v) (ht : H th = some (.lst xs)) (s : Bt th H H') : Has K H' e C fld v := by
  obtain ⟨dd, B, nw, bmB, mid, XC, hn, h1, h2⟩ := x
  exact ⟨dd, B, nw, bmB, mid, XC, hn, s _ _ h1 (ne_of h1 ht (fun z => nomatch (z : HO.ext _ = HO.lst _))), s _ _ h2 (ne_of h2 ht (fun z => nomatch (z : HO.ext _ = HO.lst _)))⟩
theorem Has.exc {e C : Addr} {fld : Str} {v : V} (x : Has K H e C fld v) : Exc H e C := by
  obtain ⟨dd, B, nw, bmB, mid, XC, hn, h1, h2⟩ := x
  exact ⟨_, h1, .inr ⟨dd, _, rfl, h2⟩⟩
/-- a row: an exception and its field's name -/
def RowOk (K : PySem.W.Frag) (th : Addr) (H : Hp) (t : Addr) : Prop := ∃ (e C : Addr) (fld : Str), H t = some (.tup [.ref e, .str fld]) ∧ Has K H e C fld (.ref th) ∧ (fld = "word" ∨ fld = "at" ∨ fld = "name")
theorem RowOk.keep {th t : Addr} {H' : Hp} (x : RowOk K th H t) (s : Same H H') : RowOk K th H' t := by
  obtain ⟨e, C, fld, h1, h2, h3⟩ := x
  exact ⟨e, C, fld, s _ _ h1, h2.keep s, h3⟩
/-- [(one, fld) for one in ..] -/
theorem rd_rows {th wl : Addr} {i : Nat} {es : List Addr} {fld : Str} (hσ : (σ)[i]? = some (some (.ref wl))) (h7 : 7 < σ.length) (hl : H wl = some (.lst (es.map V.ref))) (hz : es.length ≤ 100) (he : ∀ e, e ∈ es → ∃ C, Has K H e C fld (.ref th))
    (hf : fld = "word" ∨ fld = "at" ∨ fld = "name") (k : ∀ (L : Addr) (ts : List Addr) (H' : Hp), H L = none → Same H H' → H' L = some (.lst (ts.map V.ref)) → ts.length = es.length → (∀ t, t ∈ ts → RowOk K th H' t) → Q (.ref L) H') :
    tLc (iList K (tVar i)) (gName 7) tYes (tTup (tCons (tVar 7) (tCons (L2.tC (V.str fld)) tNil))) [7] σ H Q := by
  refine ⟨_, hσ, wl, rfl, ⟨_, SqL.of hl⟩, fun L hL => ?_⟩
  have nwL : wl ≠ L := ne_of_none hl hL
  refine lc_list (K := K) (a := wl) (xs := es.map V.ref) (fun j H' => ∃ ts : List Addr, H' L = some (.lst (ts.map V.ref)) ∧ ts.length = j ∧ Same H H' ∧ ∀ t, t ∈ ts → RowOk K th H' t) ⟨[], upd_same, rfl, Same.new hL, fun t h => by cases h⟩
    (fun j H' _ ⟨_, _, _, s, _⟩ => SqL.of (s _ _ hl)) ?_ ?_
  · rintro j x H1 hx ⟨ts, a1, a2, s1, r1⟩
    obtain ⟨e, he1, rfl⟩ := refs_at hx
    have hj : j < es.length := (List.getElem?_eq_some_iff.mp he1).1
    obtain ⟨C, hC⟩ := he e (List.mem_of_getElem? he1)
    refine ⟨wipe1, ?_⟩
    refine ⟨_, wipe_at h7, (by show 2 ≤ sizeLine; decide), fun t ht => ?_⟩
    have nLt : L ≠ t := ne_of_none a1 ht
    refine ⟨_, by rw [upd_ne nLt]; exact a1, by rw [List.length_map]; exact small100 (by omega), ts ++ [t], by rw [List.map_append]; exact upd_same, by rw [List.length_append, List.length_singleton, a2], fun b o h => ?_, ?_⟩
    · rw [upd_ne (ne_of_none h hL), upd_ne (ne_of_none (s1 _ _ h) ht)]
      exact s1 _ _ h
    · have s2 : ∀ b o, H1 b = some o → b ≠ L → (upd (upd H1 t (.tup [V.ref e, V.str fld])) L (.lst (ts.map V.ref ++ [V.ref t]))) b = some o := fun b o h n => by rw [upd_ne n, upd_ne (ne_of_none h ht)]; exact h
      have hs : ∀ {e' C' : Addr} {f' : Str} {v' : V}, Has K H1 e' C' f' v' → Has K (upd (upd H1 t (.tup [V.ref e, V.str fld])) L (.lst (ts.map V.ref ++ [V.ref t]))) e' C' f' v' := fun {e' C' f' v'} h => h.bt a1 s2
      intro u hu
      rcases List.mem_append.mp hu with hu | hu
      · obtain ⟨e', C', f', g1, g2, g3⟩ := r1 u hu
        exact ⟨e', C', f', s2 _ _ g1 (ne_of g1 a1 (by intro z; cases z)), hs g2, g3⟩
      · have eu : u = t := by simpa using hu
        subst eu
        exact ⟨e, C, fld, by rw [upd_ne nLt.symm, upd_same], hs (hC.keep s1), hf⟩
  · rintro H1 ⟨ts, a1, a2, s1, r1⟩
    exact k L ts H1 hL s1 a1 (by rw [a2, List.length_map]) r1
/-- [isinstance(one, D) for one in ..] -/
theorem rd_isin {wl D CL : Addr} {i : Nat} {es cs : List Addr} {B' nw' : String} {bmB' mid' : List Value} (hσ : (σ)[i]? = some (some (.ref wl))) (h7 : 7 < σ.length) (hl : H wl = some (.lst (es.map V.ref))) (hz : es.length ≤ 100) (hlen : es.length = cs.length)
    (he : ∀ (j : Nat) e C, es[j]? = some e → cs[j]? = some C → Exc H e C ∧ XCls K C "ValueError" "ValueError.__new__" VE (.ref CL :: VE)) (XD : XCls K D B' nw' bmB' mid') (nD : D ≠ CL)
    (k : ∀ (L : Addr) (H' : Hp), H L = none → Same H H' → H' L = some (.lst ((cs.map fun C => decide (D = C)).map V.bl)) → Q (.ref L) H') :
    tLc (iList K (tVar i)) (gName 7) tYes (tCB (rIsX K) (tCons (tVar 7) (tCons (L2.tC (V.ref D)) tNil))) [7] σ H Q := by
  refine ⟨_, hσ, wl, rfl, ⟨_, SqL.of hl⟩, fun L hL => ?_⟩
  refine lc_list (K := K) (a := wl) (xs := es.map V.ref) (fun j H' => H' L = some (.lst (((cs.take j).map fun C => decide (D = C)).map V.bl)) ∧ Same H H') ⟨upd_same, Same.new hL⟩
    (fun j H' _ ⟨_, s⟩ => SqL.of (s _ _ hl)) ?_ ?_
  · rintro j x H1 hx ⟨a1, s1⟩
    obtain ⟨e, he1, rfl⟩ := refs_at hx
    have hj : j < es.length := (List.getElem?_eq_some_iff.mp he1).1
    have hc1 : cs[j]? = some cs[j] := List.getElem?_eq_getElem (by omega)
    obtain ⟨hE, XC⟩ := he j e _ he1 hc1
    refine ⟨wipe1, ?_⟩
    have kt : PySem.W.kitOne K (.ref cs[j]) (.ref D) = some (decide (D = cs[j])) := by
      rw [XC.kitO XD]
      have z : (Value.ref CL :: VE).contains (.ref D) = false := by
        rw [List.contains_cons]
        have z1 : (Value.ref D == Value.ref CL) = false := by simp; exact nD
        rw [z1]
        rfl
      rw [z, Bool.or_false]
    refine ⟨_, wipe_at h7, e, cs[j], .ref D, .ref D, _, _, _, _, _, rfl, hE.keep s1, XC, .own D, kt, _, a1, ?_, ?_, fun b o h => ?_⟩
    · rw [List.length_map, List.length_map]
      exact small100 (by rw [List.length_take]; omega)
    · rw [List.take_add_one, hc1, List.map_append, List.map_append]
      exact upd_same
    · rw [upd_ne (ne_of_none h hL)]
      exact s1 _ _ h
  · rintro H1 ⟨a1, s1⟩
    rw [List.length_map, hlen, List.take_length] at a1
    exact k L H1 hL s1 a1
/-- [1 for is_one in .. if is_one] -/
theorem rd_cnt {wl : Addr} {i : Nat} {bs : List Bool} (hσ : (σ)[i]? = some (some (.ref wl))) (h13 : 13 < σ.length) (hl : H wl = some (.lst (bs.map V.bl))) (hz : bs.length ≤ 100)
    (k : ∀ (L : Addr) (H' : Hp), H L = none → Same H H' → H' L = some (.lst (List.replicate (cnt bs) (V.int 1))) → Q (.ref L) H') :
    tLc (iList K (tVar i)) (gName 13) (tB (tVar 13)) (L2.tC (V.int 1)) [13] σ H Q := by
  refine ⟨_, hσ, wl, rfl, ⟨_, SqL.of hl⟩, fun L hL => ?_⟩
  refine lc_list (K := K) (a := wl) (xs := bs.map V.bl) (fun j H' => H' L = some (.lst (List.replicate (cnt (bs.take j)) (V.int 1))) ∧ Same H H') ⟨upd_same, Same.new hL⟩
    (fun j H' _ ⟨_, s⟩ => SqL.of (s _ _ hl)) ?_ ?_
  · rintro j x H1 hx ⟨a1, s1⟩
    obtain ⟨b, hb, rfl⟩ := bools_at hx
    have hct := cnt_take hb
    have hle : cnt (bs.take j) ≤ 100 := Nat.le_trans (cnt_le _) (by rw [List.length_take]; omega)
    refine ⟨wipe1, _, wipe_at h13, b, rfl, ?_⟩
    cases b with
    | true =>
      refine ⟨_, a1, by rw [List.length_replicate]; exact small100 hle, ?_, fun c o h => ?_⟩
      · rw [hct]
        show _ = some (HO.lst (List.replicate (cnt (bs.take j) + 1) (V.int 1)))
        rw [List.replicate_succ']
        exact upd_same
      · rw [upd_ne (ne_of_none h hL)]
        exact s1 _ _ h
    | false =>
      refine ⟨?_, s1⟩
      rw [hct]
      exact a1
  · rintro H1 ⟨a1, s1⟩
    rw [List.length_map, List.take_length] at a1
    exact k L H1 hL s1 a1
end
end My

set_option Elab.async false
set_option maxRecDepth 100000
set_option maxHeartbeats 1000000
namespace My
open PySem L2
theorem call_isXK {X : Cx} {K : PySem.W.Frag} (e : X.K = K) (G : XGet K) : CallR X (.builtin "isinstance") (rIsX K) := by
  subst e
  exact call_isX G
theorem call_isXTK {X : Cx} {K : PySem.W.Frag} (e : X.K = K) (G : XGet K) : CallR X (.builtin "isinstance") (rIsXT K) := by
  subst e
  exact call_isXT G
def rLenK (K : PySem.W.Frag) : List V → Hp → VK → Prop := fun xs H Q => ∃ p ys, xs = [.ref p] ∧ (SqL K H p ys ∨ SqT K H p ys) ∧ Q (.int ys.length) H
theorem call_lenK {X : Cx} {K : PySem.W.Frag} (e : X.K = K) : CallR X (.builtin "len") (rLenK K) := by
  subst e
  exact call_len_seq
theorem pi_listK {X : Cx} {K : PySem.W.Frag} {tg l : Expr} {tl : TE} (e : X.K = K) (hl : PE X l tl) : PI X tg l (iList K tl) := by
  subst e
  exact pi_list hl
/-! ### the law's lines as they read -/
section
variable (K : PySem.W.Frag)
abbrev v2 : TA := tCons (tVar 2) tNil
def t1 : TS := tAsg (tCall (spDeal K) [] E0 (tCons (tVar 0) (tCons (L2.tC (.int 0)) tNil))) (gName 1)
def t2 : TS := tAsg (tLst (tCons (tCall (spAny 4) [] E0 (tCons (tVar 1) (tCons (L2.tC (.int 3)) tNil))) tNil)) (gName 2)
def t34 (c1 c2 c3 c4 : Addr) (fld : Str) (i : Nat) : TS := tAsg (tLst (tCons (tX1 c1 (spInit K c1 fld) v2) (tCons (tX1 c2 (spInit K c2 fld) v2) (tCons (tX1 c3 (spInit K c3 fld) v2) (tCons (tX1 c4 (spInit K c4 fld) v2) tNil))))) (gName i)
def tN0 (C : Addr) : TE := fun _ H Q => ∀ a, H a = none → Q (.ref a) (upd H a (exo a C none))
def t5 (c1 c2 c3 : Addr) : TS := tAsg (tLst (tCons (tN0 c1) (tCons (tN0 c2) (tCons (tN0 c3) tNil)))) (gName 5)
def t6 (CN CS : Addr) : TS := tAsg (tLst (tCons (tTup (tCons (tX1 CN (spInit K CN "name") v2) (tCons (L2.tC (.str "name")) tNil))) (tCons (tTup (tCons (tX1 CS (spInit K CS "at") v2) (tCons (L2.tC (.str "at")) tNil))) tNil))) (gName 6)
end
section
variable {K : PySem.W.Frag} {H : Hp} {σ : St} {D : Ends}
theorem rd1 {a : Addr} {ns : List Int} (hv : σ[0]? = some (some (.ref a))) (hS : SqL K H a (ns.map V.int)) (h63 : ns.length ≤ 63) (k : ∀ (dl c : Addr) (H' : Hp), Deal H' dl c → D.nx (σ.set 1 (some (.ref dl))) H') : t1 K D σ H :=
  ⟨_, hv, a, ns, 0, rfl, hS, h63, fun dl c H1 _ D1 _ _ => k dl c H1 D1⟩
theorem rd2 {dl c : Addr} (hv : σ[1]? = some (some (.ref dl))) (hD : Deal H dl c) (k : ∀ (th : Addr) (x : V) (H' : Hp), H' th = some (.lst [x]) → D.nx (σ.set 2 (some (.ref th))) H') : t2 D σ H :=
  ⟨_, hv, dl, c, 3, rfl, by decide, by decide, hD, fun x H2 _ _ => ⟨(by show 1 ≤ sizeLine; decide), fun th _ => k th x _ upd_same⟩⟩
theorem rd34 {c1 c2 c3 c4 th : Addr} {fld : Str} {i : Nat} {B nw : String} {bmB mid : List Value} (X1 : XCls K c1 B nw bmB mid) (X2 : XCls K c2 B nw bmB mid) (X3 : XCls K c3 B nw bmB mid) (X4 : XCls K c4 B nw bmB mid)
    (n1 : PySem.W.findIn K (.ref c1) fld = some none) (n2 : PySem.W.findIn K (.ref c2) fld = some none) (n3 : PySem.W.findIn K (.ref c3) fld = some none) (n4 : PySem.W.findIn K (.ref c4) fld = some none) (hv : σ[2]? = some (some (.ref th)))
    (k : ∀ (l : Addr) (es : List Addr) (H' : Hp), H l = none → Same H H' → H' l = some (.lst (es.map V.ref)) → Paired (fun e C => Has K H' e C fld (.ref th)) es [c1, c2, c3, c4] → D.nx (σ.set i (some (.ref l))) H') : t34 K c1 c2 c3 c4 fld i D σ H := by
  unfold t34
  refine asg_in (lst_in (cons_in (mk1 X1 hv n1 fun e1 G1 _ s1 h1 => ?_)))
  refine cons_in (mk1 X2 hv n2 fun e2 G2 _ s2 h2 => ?_)
  refine cons_in (mk1 X3 hv n3 fun e3 G3 _ s3 h3 => ?_)
  refine cons_in (mk1 X4 hv n4 fun e4 G4 _ s4 h4 => ?_)
  refine ⟨(by show 4 ≤ sizeLine; decide), fun l hl => ?_⟩
  have s5 : Same G4 (upd G4 l (.lst ([e1, e2, e3, e4].map V.ref))) := Same.new hl
  exact k l [e1, e2, e3, e4] _ ((((s1.trans s2).trans s3).trans s4).free hl) ((((s1.trans s2).trans s3).trans s4).trans s5) upd_same
    (.cons (((h1.keep s2).keep s3).keep (s4.trans s5)) (.cons ((h2.keep s3).keep (s4.trans s5)) (.cons (h3.keep (s4.trans s5)) (.cons (h4.keep s5) .nil))))
theorem rd5 {c1 c2 c3 : Addr} (k : ∀ (l : Addr) (es : List Addr) (H' : Hp), H l = none → Same H H' → H' l = some (.lst (es.map V.ref)) → Paired (fun e C => Exc H' e C) es [c1, c2, c3] → D.nx (σ.set 5 (some (.ref l))) H') : t5 c1 c2 c3 D σ H := by
  intro e1 h1 e2 h2 e3 h3
  refine ⟨(by show 3 ≤ sizeLine; decide), fun l hl => ?_⟩
  have s1 : Same H (upd H e1 (exo e1 c1 none)) := Same.new h1
  have s2 : Same (upd H e1 (exo e1 c1 none)) (upd (upd H e1 (exo e1 c1 none)) e2 (exo e2 c2 none)) := Same.new h2
  have s3 : Same (upd (upd H e1 (exo e1 c1 none)) e2 (exo e2 c2 none)) (upd (upd (upd H e1 (exo e1 c1 none)) e2 (exo e2 c2 none)) e3 (exo e3 c3 none)) := Same.new h3
  have s4 := Same.new (o := .lst ([e1, e2, e3].map V.ref)) hl
  have x1 : Exc (upd H e1 (exo e1 c1 none)) e1 c1 := ⟨none, upd_same, .inl rfl⟩
  have x2 : Exc (upd (upd H e1 (exo e1 c1 none)) e2 (exo e2 c2 none)) e2 c2 := ⟨none, upd_same, .inl rfl⟩
  have x3 : Exc (upd (upd (upd H e1 (exo e1 c1 none)) e2 (exo e2 c2 none)) e3 (exo e3 c3 none)) e3 c3 := ⟨none, upd_same, .inl rfl⟩
  exact k l [e1, e2, e3] _ (((s1.trans s2).trans s3).free hl) (((s1.trans s2).trans s3).trans s4) upd_same (.cons ((x1.keep s2).keep (s3.trans s4)) (.cons (x2.keep (s3.trans s4)) (.cons (x3.keep s4) .nil)))
theorem rd6 {CN CS th : Addr} {B nw B' nw' : String} {bmB mid bmB' mid' : List Value} (XN : XCls K CN B nw bmB mid) (XS : XCls K CS B' nw' bmB' mid') (nN : PySem.W.findIn K (.ref CN) "name" = some none) (nS : PySem.W.findIn K (.ref CS) "at" = some none) (hv : σ[2]? = some (some (.ref th)))
    (k : ∀ (l u v e1 e2 : Addr) (H' : Hp), H l = none → Same H H' → H' l = some (.lst [.ref u, .ref v]) → H' u = some (.tup [.ref e1, .str "name"]) → H' v = some (.tup [.ref e2, .str "at"]) → Has K H' e1 CN "name" (.ref th) → Has K H' e2 CS "at" (.ref th) → D.nx (σ.set 6 (some (.ref l))) H') : t6 K CN CS D σ H := by
  unfold t6
  refine asg_in (lst_in (cons_in (tup_in (cons_in (mk1 XN hv nN fun e1 G1 _ s1 h1 => ?_)))))
  refine ⟨(by show 2 ≤ sizeLine; decide), fun u hu => ?_⟩
  refine cons_in (tup_in (cons_in (mk1 XS hv nS fun e2 G2 _ s2 h2 => ?_)))
  refine ⟨(by show 2 ≤ sizeLine; decide), fun v hv => ⟨(by show 2 ≤ sizeLine; decide), fun l hl => ?_⟩⟩
  have s3 : Same G1 (upd G1 u (.tup [.ref e1, .str "name"])) := Same.new hu
  have s4 : Same G2 (upd G2 v (.tup [.ref e2, .str "at"])) := Same.new hv
  have s5 : Same (upd G2 v (.tup [.ref e2, .str "at"])) (upd (upd G2 v (.tup [.ref e2, .str "at"])) l (.lst [.ref u, .ref v])) := Same.new hl
  have u1 : (upd G1 u (.tup [.ref e1, .str "name"])) u = some (.tup [.ref e1, .str "name"]) := upd_same
  have v1 : (upd G2 v (.tup [.ref e2, .str "at"])) v = some (.tup [.ref e2, .str "at"]) := upd_same
  exact k l u v e1 e2 _ ((((s1.trans s3).trans s2).trans s4).free hl) ((((s1.trans s3).trans s2).trans s4).trans s5) upd_same (s5 _ _ (s4 _ _ (s2 _ _ u1))) (s5 _ _ v1) ((h1.keep s3).keep ((s2.trans s4).trans s5)) (h2.keep (s4.trans s5))
end
end My

set_option Elab.async false
set_option maxRecDepth 100000
set_option maxHeartbeats 1000000
namespace My
open PySem L2
section
variable (K : PySem.W.Frag)
def tRow (fld : Str) (i : Nat) : TE := tLc (iList K (tVar i)) (gName 7) tYes (tTup (tCons (tVar 7) (tCons (L2.tC (V.str fld)) tNil))) [7]
def t7 : TS := tAsg (tOp rCat (tOp rCat (tRow K "word" 3) (tRow K "at" 4)) (tVar 6)) (gName 8)
def tBad : TS := tRet (L2.tC (.bl false))
def t8 : TS := tFor (iList K (tVar 8)) (gTup K 2 (gCons (gName 7) (gCons (gName 9) gNil))) (tIfS (tNot (tB (tCall (spSame K) [] E0 (tCons (tVar 7) (tCons (tVar 9) (tCons (tVar 2) tNil)))))) tBad tNext)
def t9 : TS := tAsg (tOp rCat (tOp rCat (tVar 3) (tVar 4)) (tVar 5)) (gName 10)
def tIs (e : TE) (c : V) : TE := tCB (rIsX K) (tCons e (tCons (L2.tC c) tNil))
def t10 (CL : Addr) : TS := tFor (iList K (tVar 10)) (gName 7) (tIfS (tOr (tNot (tB (tIs K (tVar 7) (.ref CL)))) (tOr (tNot (tB (tIs K (tVar 7) (.ty "ValueError")))) (tB (tCB (rIsXT K) (tCons (tVar 7) (tCons (tTup (tCons (L2.tC (.ty "KeyError")) (tCons (L2.tC (.ty "IndexError")) tNil))) tNil)))))) tBad tNext)
def tOth (j : Int) : TE := tOp (rIxT K) (tOp (rIxL K) (tVar 6) (L2.tC (.int j))) (L2.tC (.int 0))
def t11 (CL : Addr) (j : Int) (n : String) : TS := tIfS (tOr (tB (tIs K (tOth K j) (.ref CL))) (tNot (tB (tIs K (tOth K j) (.ty n))))) tBad tNext
def tIsin (D : Addr) : TE := tLc (iList K (tVar 10)) (gName 7) tYes (tIs K (tVar 7) (.ref D)) [7]
def t13 (c1 c2 : Addr) : TS := tAsg (tTup (tCons (tIsin K c1) (tCons (tIsin K c2) tNil))) (gName 11)
def tCnt (i : Nat) : TE := tLc (iList K (tVar i)) (gName 13) (tB (tVar 13)) (L2.tC (V.int 1)) [13]
def t14 : TS := tIfS (tTest (tOp (rNeD K) (tLc (iTup K (tVar 11)) (gName 14) tYes (tCB (rLenK K) (tCons (tCnt K 14) tNil)) [14]) (tLst (tCons (L2.tC (.int 1)) (tCons (L2.tC (.int 1)) tNil))))) tBad tNext
def t15 (c1 c2 : Addr) : TS := tAsg (tOp rCat (tIsin K c1) (tIsin K c2)) (gName 12)
def t16 (c1 c2 : Addr) : TS := tAsg (tOp rCat (tOp rCat (tVar 12) (tIsin K c1)) (tIsin K c2)) (gName 12)
def t18 (c1 : Addr) : TS := tAsg (tOp rCat (tVar 12) (tIsin K c1)) (gName 12)
def t19 : TS := tRet (tOp rEq (tCB (rLenK K) (tCons (tCnt K 12) tNil)) (L2.tC (.int 9)))
end
theorem cat_ok {H : Hp} {l b : Addr} {xs ys : List V} {Q : VK} (h1 : H l = some (.lst xs)) (h2 : H b = some (.lst ys)) (hz : xs.length + ys.length ≤ 1000) (k : ∀ (p : Addr) (H' : Hp), H p = none → Same H H' → H' p = some (.lst (xs ++ ys)) → Q (.ref p) H') : rCat (.ref l) (.ref b) H Q :=
  ⟨l, b, xs, ys, rfl, rfl, h1, h2, small1k hz, fun p hp => k p _ hp (Same.new hp) upd_same⟩
theorem paired_at {R : Addr → Addr → Prop} : ∀ {es cs : List Addr}, Paired R es cs → ∀ (j : Nat) e c, es[j]? = some e → cs[j]? = some c → R e c
  | _, _, .nil, _, _, _, h, _ => by simp at h
  | _, _, .cons r p, 0, e, c, h1, h2 => by
    simp at h1 h2
    subst h1 h2
    exact r
  | _, _, .cons r p, j + 1, e, c, h1, h2 => paired_at p j e c (by simpa using h1) (by simpa using h2)
theorem paired_mem {R : Addr → Addr → Prop} {es cs : List Addr} (p : Paired R es cs) {e : Addr} (h : e ∈ es) : ∃ c, R e c := by
  obtain ⟨j, hj, e1⟩ := List.mem_iff_getElem.mp h
  have hc : j < cs.length := by rw [← Paired.length p]; exact hj
  exact ⟨cs[j], paired_at p j e _ (by rw [List.getElem?_eq_getElem hj, e1]) (List.getElem?_eq_getElem hc)⟩
theorem paired_app {R : Addr → Addr → Prop} : ∀ {es cs es' cs' : List Addr}, Paired R es cs → Paired R es' cs' → Paired R (es ++ es') (cs ++ cs')
  | _, _, _, _, .nil, p => p
  | _, _, _, _, .cons r p, q => .cons r (paired_app p q)
section
variable {K : PySem.W.Frag} {H : Hp} {σ : St} {D : Ends}
/-- all the rows -/
theorem rd7 {th wl pl ol u v : Addr} {es qs : List Addr} {cs cs' : List Addr} (h7 : 7 < σ.length) (a3 : σ[3]? = some (some (.ref wl))) (a4 : σ[4]? = some (some (.ref pl))) (a6 : σ[6]? = some (some (.ref ol))) (hw : H wl = some (.lst (es.map V.ref))) (hp : H pl = some (.lst (qs.map V.ref))) (ho : H ol = some (.lst ([u, v].map V.ref)))
    (z1 : es.length ≤ 100) (z2 : qs.length ≤ 100) (pw : Paired (fun e C => Has K H e C "word" (.ref th)) es cs) (pp : Paired (fun e C => Has K H e C "at" (.ref th)) qs cs') (ru : RowOk K th H u) (rv : RowOk K th H v)
    (k : ∀ (l : Addr) (ts : List Addr) (H' : Hp), H l = none → Same H H' → H' l = some (.lst (ts.map V.ref)) → ts.length ≤ 202 → (∀ t, t ∈ ts → RowOk K th H' t) → D.nx (σ.set 8 (some (.ref l))) H') : t7 K D σ H := by
  unfold t7
  refine asg_in (op_in (op_in ?_))
  refine rd_rows (th := th) a3 h7 hw z1 (fun e he => paired_mem pw he) (.inl rfl) fun L1 ts1 H1 n1 s1 b1 l1 r1 => ?_
  refine rd_rows (th := th) a4 h7 (s1 _ _ hp) z2 (fun e he => by obtain ⟨C, h⟩ := paired_mem pp he; exact ⟨C, h.keep s1⟩) (.inr (.inl rfl)) fun L2' ts2 H2 n2 s2 b2 l2 r2 => ?_
  refine cat_ok (s2 _ _ b1) b2 (by rw [List.length_map, List.length_map]; omega) fun L3 H3 _ s3 b3 => ?_
  refine ⟨_, a6, ?_⟩
  refine cat_ok b3 (s3 _ _ (s2 _ _ (s1 _ _ ho))) (by rw [List.length_append, List.length_map, List.length_map]; show _ + 2 ≤ 1000; omega) fun L4 H4 n4 s4 b4 => ?_
  have sa : Same H H4 := ((s1.trans s2).trans s3).trans s4
  refine k L4 (ts1 ++ ts2 ++ [u, v]) H4 (((s1.trans s2).trans s3).free n4) sa (by rw [b4, List.map_append, List.map_append]) (by rw [List.length_append, List.length_append]; show _ + 2 ≤ 202; omega) fun t ht => ?_
  rcases List.mem_append.mp ht with h | h
  · rcases List.mem_append.mp h with h | h
    · exact (r1 t h).keep ((s2.trans s3).trans s4)
    · exact (r2 t h).keep (s3.trans s4)
  · rcases List.mem_cons.mp h with rfl | h
    · exact ru.keep sa
    · have e : t = v := by simpa using h
      subst e
      exact rv.keep sa
/-- for one, form in rows -/
theorem rd8 {th rl : Addr} {x : V} {ts : List Addr} {a dl wl pl bl ol : Addr} {vr : List (Option V)} (hσ : σ = [some (.ref a), some (.ref dl), some (.ref th), some (.ref wl), some (.ref pl), some (.ref bl), some (.ref ol), none, some (.ref rl), none] ++ vr) (ht : H th = some (.lst [x])) (hr : H rl = some (.lst (ts.map V.ref))) (nrt : rl ≠ th) (hz : ts.length ≤ 202) (hok : ∀ t, t ∈ ts → RowOk K th H t)
    (k : ∀ (v7 v9 : Option V) (H' : Hp), Bt th H H' → D.nx ([some (.ref a), some (.ref dl), some (.ref th), some (.ref wl), some (.ref pl), some (.ref bl), some (.ref ol), v7, some (.ref rl), v9] ++ vr) H') : t8 K D σ H := by
  subst hσ
  refine ⟨_, rfl, rl, rfl, ⟨_, SqL.of hr⟩, for_list (K := K) (a := rl) (xs := ts.map V.ref) (fun i σ' H' => ∃ (v7 v9 : Option V) (xs : List V), σ' = [some (.ref a), some (.ref dl), some (.ref th), some (.ref wl), some (.ref pl), some (.ref bl), some (.ref ol), v7, some (.ref rl), v9] ++ vr ∧ Bt th H H' ∧ H' th = some (.lst xs) ∧ xs.length = i + 1)
    ⟨none, none, [x], rfl, Bt.refl H, ht, rfl⟩ (fun i σ' H' _ ⟨_, _, _, _, s, _⟩ => SqL.of (s _ _ hr nrt)) ?_ ?_⟩
  · rintro i y σ' H1 hy ⟨v7, v9, xs, rfl, s1, t1', l1⟩
    obtain ⟨t, h1, rfl⟩ := refs_at hy
    have hi : i < ts.length := (List.getElem?_eq_some_iff.mp h1).1
    obtain ⟨e, C, fld, g1, g2, g3⟩ := hok t (List.mem_of_getElem? h1)
    have q1 : H1 t = some (.tup [.ref e, .str fld]) := s1 _ _ g1 (ne_of g1 ht (by intro z; cases z))
    refine ⟨t, _, rfl, SqT.of q1, rfl, _, _, rfl, _, _, rfl, rfl, ?_⟩
    refine ⟨_, rfl, _, rfl, _, rfl, e, C, th, fld, xs, rfl, g2.bt ht s1, g3, t1', by omega, fun H2 s2 t2' => ⟨true, rfl, ?_⟩⟩
    exact ⟨_, _, _, rfl, fun b o h n => s2 b o (s1 b o h n) n, t2', by rw [List.length_append, List.length_singleton, l1]⟩
  · rintro σ' H1 ⟨v7, v9, xs, rfl, s1, _, _⟩
    exact k v7 v9 H1 s1
end
end My

set_option Elab.async false
set_option maxRecDepth 100000
set_option maxHeartbeats 1000000
namespace My
open PySem L2
/-- an exception of LookError's -/
def One (K : PySem.W.Frag) (CL : Addr) (H : Hp) (e C : Addr) : Prop := Exc H e C ∧ XCls K C "ValueError" "ValueError.__new__" VE (.ref CL :: VE)
theorem has_CL {CL : Addr} : (Value.ref CL :: VE).contains (.ref CL) = true := by simp
theorem has_VE {CL : Addr} : (Value.ref CL :: VE).contains (.type "ValueError") = true := by rw [List.contains_cons]; rfl
theorem no_KE {CL : Addr} : (Value.ref CL :: VE).contains (.type "KeyError") = false := by rw [List.contains_cons]; rfl
theorem no_IE {CL : Addr} : (Value.ref CL :: VE).contains (.type "IndexError") = false := by rw [List.contains_cons]; rfl
theorem mt_VE : PySem.W.kitMeta "ValueError" = true := by decide +kernel
theorem mt_KE : PySem.W.kitMeta "KeyError" = true := by decide +kernel
theorem mt_IE : PySem.W.kitMeta "IndexError" = true := by decide +kernel
section
variable {K : PySem.W.Frag} {H : Hp} {σ : St} {D : Ends}
theorem rd9 {wl pl bl : Addr} {es qs bs : List Addr} (a3 : σ[3]? = some (some (.ref wl))) (a4 : σ[4]? = some (some (.ref pl))) (a5 : σ[5]? = some (some (.ref bl))) (hw : H wl = some (.lst (es.map V.ref))) (hp : H pl = some (.lst (qs.map V.ref))) (hb : H bl = some (.lst (bs.map V.ref)))
    (z1 : es.length ≤ 100) (z2 : qs.length ≤ 100) (z3 : bs.length ≤ 100) (k : ∀ (l : Addr) (H' : Hp), Same H H' → H' l = some (.lst ((es ++ qs ++ bs).map V.ref)) → D.nx (σ.set 10 (some (.ref l))) H') : t9 D σ H := by
  refine ⟨_, a3, _, a4, ?_⟩
  refine cat_ok hw hp (by rw [List.length_map, List.length_map]; omega) fun L3 H3 _ s3 b3 => ?_
  refine ⟨_, a5, ?_⟩
  refine cat_ok b3 (s3 _ _ hb) (by rw [List.length_append, List.length_map, List.length_map, List.length_map]; omega) fun L4 H4 _ s4 b4 => ?_
  exact k L4 H4 (s3.trans s4) (by rw [b4, List.map_append, List.map_append])
theorem rd10 {el CL : Addr} {B nw : String} {bmB mid : List Value} {es cs : List Addr} {v0 : Option V} (hσ : σ = σ.set 7 v0) (h7 : 7 < σ.length) (a10 : σ[10]? = some (some (.ref el))) (he : H el = some (.lst (es.map V.ref))) (XL : XCls K CL B nw bmB mid) (p : Paired (One K CL H) es cs)
    (k : ∀ (v : Option V) (H' : Hp), Same H H' → D.nx (σ.set 7 v) H') : t10 K CL D σ H := by
  refine ⟨_, a10, el, rfl, ⟨_, SqL.of he⟩, for_list (K := K) (a := el) (xs := es.map V.ref) (fun i σ' H' => ∃ v, σ' = σ.set 7 v ∧ Same H H') ⟨v0, hσ, Same.refl H⟩ (fun i σ' H' _ ⟨_, _, s⟩ => SqL.of (s _ _ he)) ?_ ?_⟩
  · rintro i y σ' H1 hy ⟨v, rfl, s1⟩
    obtain ⟨e, h1, rfl⟩ := refs_at hy
    obtain ⟨C, hE, XC⟩ := paired_mem p (List.mem_of_getElem? h1)
    have g7 : ((σ.set 7 v).set 7 (some (V.ref e)))[7]? = some (some (V.ref e)) := by rw [List.getElem?_set_self (by rw [List.length_set]; exact h7)]
    have k1 : PySem.W.kitOne K (.ref C) (.ref CL) = some true := by rw [XC.kitO XL, has_CL, Bool.or_true]
    have k2 : PySem.W.kitOne K (.ref C) (.type "ValueError") = some true := by rw [XC.kitT mt_VE, has_VE]
    have k3 : PySem.W.kitOne K (.ref C) (.type "KeyError") = some false := by rw [XC.kitT mt_KE, no_KE]
    have k4 : PySem.W.kitOne K (.ref C) (.type "IndexError") = some false := by rw [XC.kitT mt_IE, no_IE]
    have k5 : PySem.W.kitAny K (.ref C) [.type "KeyError", .type "IndexError"] = some false := kitAny_cons k3 (fun _ => kitAny_cons k4 (fun _ => kitAny_nil) (fun z => nomatch z)) (fun z => nomatch z)
    refine ⟨_, g7, e, C, .ref CL, .ref CL, _, _, _, _, true, rfl, hE.keep s1, XC, .own CL, k1, true, rfl, ?_⟩
    refine ⟨_, g7, e, C, .ty "ValueError", .type "ValueError", _, _, _, _, true, rfl, hE.keep s1, XC, .ty _, k2, true, rfl, ?_⟩
    refine ⟨_, g7, (by show 2 ≤ sizeLine; decide), fun tp htp => ?_⟩
    refine ⟨e, C, tp, [.ty "KeyError", .ty "IndexError"], [.type "KeyError", .type "IndexError"], _, _, _, _, false, rfl, hE.keep (s1.trans (Same.new htp)), XC, upd_same, .cons (.ty _) (.cons (.ty _) .nil), k5, false, rfl, ?_⟩
    exact ⟨some (V.ref e), by rw [List.set_set], s1.trans (Same.new htp)⟩
  · rintro σ' H1 ⟨v, rfl, s1⟩
    exact k v H1 s1
theorem rd11 {ol u e C CL : Addr} {xs : List V} {fld : Str} {j : Int} {n : String} {B nw B' nw' : String} {bmB mid bmB' mid' : List Value} (a6 : σ[6]? = some (some (.ref ol))) (ho : H ol = some (.lst xs)) (hj : atI xs j = some (.ref u)) (hu : H u = some (.tup [.ref e, .str fld])) (hE : Exc H e C)
    (XC : XCls K C B nw bmB mid) (XL : XCls K CL B' nw' bmB' mid') (h1 : mid.contains (.ref CL) = false) (h2 : CL ≠ C) (hm : PySem.W.kitMeta n = true) (h3 : mid.contains (.type n) = true) (k : D.nx σ H) : t11 K CL j n D σ H := by
  have k1 : PySem.W.kitOne K (.ref C) (.ref CL) = some false := by rw [XC.kitO XL, decide_eq_false h2, h1]; rfl
  have k2 : PySem.W.kitOne K (.ref C) (.type n) = some true := by rw [XC.kitT hm, h3]
  refine ⟨_, a6, ol, xs, j, .ref u, rfl, rfl, SqL.of ho, hj, u, _, 0, .ref e, rfl, rfl, SqT.of hu, rfl, e, C, .ref CL, .ref CL, _, _, _, _, false, rfl, hE, XC, .own CL, k1, false, rfl, ?_⟩
  refine ⟨_, a6, ol, xs, j, .ref u, rfl, rfl, SqL.of ho, hj, u, _, 0, .ref e, rfl, rfl, SqT.of hu, rfl, e, C, .ty n, .type n, _, _, _, _, true, rfl, hE, XC, .ty _, k2, true, rfl, ?_⟩
  exact k
/-- which of the classes is D -/
abbrev who (cs : List Addr) (D : Addr) : List Bool := cs.map fun C => decide (D = C)
theorem one_at {CL : Addr} {es cs : List Addr} (p : Paired (One K CL H) es cs) : ∀ (j : Nat) e C, es[j]? = some e → cs[j]? = some C → Exc H e C ∧ XCls K C "ValueError" "ValueError.__new__" VE (.ref CL :: VE) := fun j e C h1 h2 => paired_at p j e C h1 h2
theorem One.keep {CL e C : Addr} {H' : Hp} (x : One K CL H e C) (s : Same H H') : One K CL H' e C := ⟨x.1.keep s, x.2⟩
theorem rd13 {el CL c1 c2 : Addr} {B nw B' nw' : String} {bmB mid bmB' mid' : List Value} {es cs : List Addr} (h7 : 7 < σ.length) (a10 : σ[10]? = some (some (.ref el))) (he : H el = some (.lst (es.map V.ref))) (hz : es.length ≤ 100) (p : Paired (One K CL H) es cs) (X1 : XCls K c1 B nw bmB mid) (X2 : XCls K c2 B' nw' bmB' mid') (n1 : c1 ≠ CL) (n2 : c2 ≠ CL)
    (k : ∀ (t l1 l2 : Addr) (H' : Hp), Same H H' → H' t = some (.tup [.ref l1, .ref l2]) → H' l1 = some (.lst ((who cs c1).map V.bl)) → H' l2 = some (.lst ((who cs c2).map V.bl)) → D.nx (σ.set 11 (some (.ref t))) H') : t13 K c1 c2 D σ H := by
  unfold t13
  refine asg_in (tup_in (cons_in ?_))
  refine rd_isin (es := es) (cs := cs) a10 h7 he hz (Paired.length p) (one_at p) X1 n1 fun l1 H1 _ s1 b1 => ?_
  refine cons_in ?_
  refine rd_isin (es := es) (cs := cs) a10 h7 (s1 _ _ he) hz (Paired.length p) (one_at (Paired.mapP p fun e C h => One.keep h s1)) X2 n2 fun l2 H2 _ s2 b2 => ?_
  refine ⟨(by show 2 ≤ sizeLine; decide), fun t ht => ?_⟩
  exact k t l1 l2 _ ((s1.trans s2).trans (Same.new ht)) upd_same (Same.new ht _ _ (s2 _ _ b1)) (Same.new ht _ _ b2)
theorem rd15 {el CL c1 c2 : Addr} {B nw B' nw' : String} {bmB mid bmB' mid' : List Value} {es cs : List Addr} (h7 : 7 < σ.length) (a10 : σ[10]? = some (some (.ref el))) (he : H el = some (.lst (es.map V.ref))) (hz : es.length ≤ 100) (p : Paired (One K CL H) es cs) (X1 : XCls K c1 B nw bmB mid) (X2 : XCls K c2 B' nw' bmB' mid') (n1 : c1 ≠ CL) (n2 : c2 ≠ CL)
    (k : ∀ (l : Addr) (H' : Hp), Same H H' → H' l = some (.lst ((who cs c1 ++ who cs c2).map V.bl)) → D.nx (σ.set 12 (some (.ref l))) H') : t15 K c1 c2 D σ H := by
  unfold t15
  have hl := Paired.length p
  refine asg_in (op_in ?_)
  refine rd_isin (es := es) (cs := cs) a10 h7 he hz (Paired.length p) (one_at p) X1 n1 fun l1 H1 _ s1 b1 => ?_
  refine rd_isin (es := es) (cs := cs) a10 h7 (s1 _ _ he) hz (Paired.length p) (one_at (Paired.mapP p fun e C h => One.keep h s1)) X2 n2 fun l2 H2 _ s2 b2 => ?_
  refine cat_ok (s2 _ _ b1) b2 (by rw [List.length_map, List.length_map, List.length_map, List.length_map]; omega) fun L H3 _ s3 b3 => ?_
  exact k L H3 ((s1.trans s2).trans s3) (by rw [b3, List.map_append])
theorem rd16 {el ll CL c1 c2 : Addr} {bs : List Bool} {B nw B' nw' : String} {bmB mid bmB' mid' : List Value} {es cs : List Addr} (h7 : 7 < σ.length) (a12 : σ[12]? = some (some (.ref ll))) (hll : H ll = some (.lst (bs.map V.bl))) (hbs : bs.length ≤ 500) (a10 : σ[10]? = some (some (.ref el))) (he : H el = some (.lst (es.map V.ref))) (hz : es.length ≤ 100) (p : Paired (One K CL H) es cs) (X1 : XCls K c1 B nw bmB mid) (X2 : XCls K c2 B' nw' bmB' mid') (n1 : c1 ≠ CL) (n2 : c2 ≠ CL)
    (k : ∀ (l : Addr) (H' : Hp), Same H H' → H' l = some (.lst ((bs ++ who cs c1 ++ who cs c2).map V.bl)) → D.nx (σ.set 12 (some (.ref l))) H') : t16 K c1 c2 D σ H := by
  unfold t16
  have hl := Paired.length p
  refine asg_in (op_in (op_in ⟨_, a12, ?_⟩))
  refine rd_isin (es := es) (cs := cs) a10 h7 he hz (Paired.length p) (one_at p) X1 n1 fun l1 H1 _ s1 b1 => ?_
  refine cat_ok (s1 _ _ hll) b1 (by rw [List.length_map, List.length_map, List.length_map]; omega) fun L H3 _ s3 b3 => ?_
  refine rd_isin (es := es) (cs := cs) a10 h7 ((s1.trans s3) _ _ he) hz (Paired.length p) (one_at (Paired.mapP p fun e C h => One.keep h (s1.trans s3))) X2 n2 fun l2 H2 _ s2 b2 => ?_
  refine cat_ok (s2 _ _ b3) b2 (by rw [List.length_append, List.length_map, List.length_map, List.length_map, List.length_map, List.length_map]; omega) fun L' H4 _ s4 b4 => ?_
  exact k L' H4 (((s1.trans s3).trans s2).trans s4) (by rw [b4, List.map_append, List.map_append])
theorem rd18 {el ll CL c1 : Addr} {bs : List Bool} {B nw : String} {bmB mid : List Value} {es cs : List Addr} (h7 : 7 < σ.length) (a12 : σ[12]? = some (some (.ref ll))) (hll : H ll = some (.lst (bs.map V.bl))) (hbs : bs.length ≤ 500) (a10 : σ[10]? = some (some (.ref el))) (he : H el = some (.lst (es.map V.ref))) (hz : es.length ≤ 100) (p : Paired (One K CL H) es cs) (X1 : XCls K c1 B nw bmB mid) (n1 : c1 ≠ CL)
    (k : ∀ (l : Addr) (H' : Hp), Same H H' → H' l = some (.lst ((bs ++ who cs c1).map V.bl)) → D.nx (σ.set 12 (some (.ref l))) H') : t18 K c1 D σ H := by
  unfold t18
  have hl := Paired.length p
  refine asg_in (op_in ⟨_, a12, ?_⟩)
  refine rd_isin (es := es) (cs := cs) a10 h7 he hz (Paired.length p) (one_at p) X1 n1 fun l1 H1 _ s1 b1 => ?_
  refine cat_ok (s1 _ _ hll) b1 (by rw [List.length_map, List.length_map, List.length_map]; omega) fun L H3 _ s3 b3 => ?_
  exact k L H3 (s1.trans s3) (by rw [b3, List.map_append])
/-- if [len(..) for row in forms] != [1, 1]: .. -/
theorem rd14 {t l1 l2 : Addr} {b1 b2 : List Bool} (h14 : 14 < σ.length) (a11 : σ[11]? = some (some (.ref t))) (ht : H t = some (.tup [.ref l1, .ref l2])) (g1 : H l1 = some (.lst (b1.map V.bl))) (g2 : H l2 = some (.lst (b2.map V.bl))) (z1 : b1.length ≤ 100) (z2 : b2.length ≤ 100) (c1 : cnt b1 = 1) (c2 : cnt b2 = 1)
    (k : ∀ H', Same H H' → D.nx σ H') : t14 K D σ H := by
  refine ⟨_, a11, t, rfl, ⟨_, SqT.of ht⟩, fun M hM => ?_⟩
  refine lc_tup (K := K) (a := t) (xs := [.ref l1, .ref l2]) (fun i H' => H' M = some (.lst (([1, 1].take i : List Int).map V.int)) ∧ Same H H') ⟨upd_same, Same.new hM⟩ (fun i H' _ ⟨_, s⟩ => SqT.of (s _ _ ht)) ?_ ?_
  · rintro i y H1 hy ⟨m1, s1⟩
    refine ⟨wipe1, ?_⟩
    have w14 : ∀ v : V, ((wipe σ [14]).set 14 (some v))[14]? = some (some v) := fun v => wipe_at h14
    have l14 : ∀ v : V, 13 < ((wipe σ [14]).set 14 (some v)).length := fun v => by
      show 13 < ((σ.set 14 none).set 14 (some v)).length
      rw [List.length_set, List.length_set]
      omega
    have go : ∀ (l : Addr) (bs : List Bool), y = .ref l → H l = some (.lst (bs.map V.bl)) → bs.length ≤ 100 → cnt bs = 1 → ([1, 1].take (i + 1) : List Int) = [1, 1].take i ++ [1] → ([1, 1].take i : List Int).length ≤ 2 →
        tCB (rLenK K) (tCons (tCnt K 14) tNil) ((wipe σ [14]).set 14 (some y)) H1 fun y' H4 => ∃ acc, H4 M = some (.lst acc) ∧ acc.length < sizeLine ∧ (upd H4 M (.lst (acc ++ [y']))) M = some (.lst (([1, 1].take (i + 1) : List Int).map V.int)) ∧ Same H (upd H4 M (.lst (acc ++ [y']))) := by
      intro l bs e hl hz hc htk hle
      subst e
      refine cons_in ?_
      refine rd_cnt (i := 14) (bs := bs) (w14 _) (l14 _) (s1 _ _ hl) hz fun L H2 _ s2 e2 => ?_
      refine ⟨L, _, rfl, .inl (SqL.of e2), _, s2 _ _ m1, ?_, ?_, fun b o h => ?_⟩
      · rw [List.length_map]
        exact small100 (by omega)
      · rw [htk, map_snoc, List.length_replicate, hc]
        exact upd_same
      · rw [upd_ne (ne_of_none h hM)]
        exact s2 _ _ (s1 _ _ h)
    match i, hy with
    | 0, hy => exact go l1 b1 (Option.some.inj hy).symm g1 z1 c1 rfl (by decide)
    | 1, hy => exact go l2 b2 (Option.some.inj hy).symm g2 z2 c2 rfl (by decide)
    | i + 2, hy => simp at hy
  · rintro H1 ⟨m1, s1⟩
    refine ⟨(by show 2 ≤ sizeLine; decide), fun p hp => ?_⟩
    have m2 : (upd H1 p (.lst [.int 1, .int 1])) M = some (.lst (([1, 1] : List Int).map V.int)) := by rw [upd_ne (ne_of_none m1 hp)]; exact m1
    have p2 : (upd H1 p (.lst [.int 1, .int 1])) p = some (.lst (([1, 1] : List Int).map V.int)) := upd_same
    refine ⟨.list (([1, 1] : List Int).map PyData.int), .list (([1, 1] : List Int).map PyData.int), Dp.lst (SqL.of m2) (dp_ints _), Dp.lst (SqL.of p2) (dp_ints _), PySem.W.ke_shaped_ints _, PySem.W.ke_shaped_ints _, _, rfl, ?_⟩
    refine iteY (by decide) ?_
    exact k _ (s1.trans (Same.new hp))
/-- return len(..) == 9 -/
theorem rd19 {ll : Addr} {bs : List Bool} (h13 : 13 < σ.length) (a12 : σ[12]? = some (some (.ref ll))) (hll : H ll = some (.lst (bs.map V.bl))) (hz : bs.length ≤ 100) (hc : cnt bs = 9) (k : ∀ H', D.rt (.bl true) H') : t19 K D σ H := by
  unfold t19
  refine (?_ : tOp rEq (tCB (rLenK K) (tCons (tCnt K 12) tNil)) (L2.tC (.int 9)) σ H D.rt)
  refine op_in (?_ : tCons (tCnt K 12) tNil σ H _)
  refine cons_in ?_
  refine rd_cnt (i := 12) (bs := bs) a12 h13 hll hz fun L H2 _ s2 e2 => ?_
  refine ⟨L, _, rfl, .inl (SqL.of e2), rfl, ?_⟩
  have e : decide (V.int ((List.replicate (cnt bs) (V.int 1)).length : Nat) = V.int 9) = true := decide_eq_true (by rw [List.length_replicate, hc]; rfl)
  rw [e]
  exact k H2
end
end My

set_option Elab.async false
set_option maxRecDepth 100000
set_option maxHeartbeats 4000000
namespace My
open PySem L2
/-- the package's own classes, as the top has made them -/
structure Tx (K : PySem.W.Frag) (mg : Str → Option Value) (CL CK CR CD CC CT CE CG CF CN CS CH CW CM : Addr) : Prop where
  G : XGet K
  xL : XCls K CL "ValueError" "ValueError.__new__" VE VE
  mL : mg "LookError" = some (.ref CL)
  xK : XCls K CK "ValueError" "ValueError.__new__" VE (.ref CL :: VE)
  mK : mg "InvalidKind" = some (.ref CK)
  nK : PySem.W.findIn K (.ref CK) "word" = some none
  xR : XCls K CR "ValueError" "ValueError.__new__" VE (.ref CL :: VE)
  mR : mg "InvalidReader" = some (.ref CR)
  nR : PySem.W.findIn K (.ref CR) "word" = some none
  xD : XCls K CD "ValueError" "ValueError.__new__" VE (.ref CL :: VE)
  mD : mg "InvalidDesign" = some (.ref CD)
  nD : PySem.W.findIn K (.ref CD) "word" = some none
  xC : XCls K CC "ValueError" "ValueError.__new__" VE (.ref CL :: VE)
  mC : mg "InvalidChange" = some (.ref CC)
  nC : PySem.W.findIn K (.ref CC) "word" = some none
  xT : XCls K CT "ValueError" "ValueError.__new__" VE (.ref CL :: VE)
  mT : mg "InvalidText" = some (.ref CT)
  nT : PySem.W.findIn K (.ref CT) "at" = some none
  xE : XCls K CE "ValueError" "ValueError.__new__" VE (.ref CL :: VE)
  mE : mg "InvalidEvent" = some (.ref CE)
  nE : PySem.W.findIn K (.ref CE) "at" = some none
  xG : XCls K CG "ValueError" "ValueError.__new__" VE (.ref CL :: VE)
  mG : mg "InvalidLog" = some (.ref CG)
  nG : PySem.W.findIn K (.ref CG) "at" = some none
  xF : XCls K CF "ValueError" "ValueError.__new__" VE (.ref CL :: VE)
  mF : mg "Refused" = some (.ref CF)
  nF : PySem.W.findIn K (.ref CF) "at" = some none
  xN : XCls K CN "LookupError" "LookupError.__new__" KEt KEt
  mN : mg "NoName" = some (.ref CN)
  nN : PySem.W.findIn K (.ref CN) "name" = some none
  xS : XCls K CS "IndexError" "IndexError.__new__" IEt IEt
  mS : mg "NoStep" = some (.ref CS)
  nS : PySem.W.findIn K (.ref CS) "at" = some none
  xH : XCls K CH "ValueError" "ValueError.__new__" VE (.ref CL :: VE)
  mH : mg "InvalidHarm" = some (.ref CH)
  eH : PySem.W.excIn K CH VE "ValueError.__new__" = true
  xW : XCls K CW "ValueError" "ValueError.__new__" VE (.ref CL :: VE)
  mW : mg "InvalidWord" = some (.ref CW)
  eW : PySem.W.excIn K CW VE "ValueError.__new__" = true
  xM : XCls K CM "ValueError" "ValueError.__new__" VE (.ref CL :: VE)
  mM : mg "InvalidCommand" = some (.ref CM)
  eM : PySem.W.excIn K CM VE "ValueError.__new__" = true
  nd : [CK, CR, CD, CC, CT, CE, CG, CF, CH, CW, CM].Nodup
  nl : CL ∉ [CK, CR, CD, CC, CT, CE, CG, CF, CH, CW, CM]
  lN : CL ≠ CN
  lS : CL ≠ CS
  mIs : mg "isinstance" = none
  mLen : mg "len" = none
  mVal : mg "ValueError" = none
  mKey : mg "KeyError" = none
  mIdx : mg "IndexError" = none
end My
namespace My
open PySem L2
section
variable {K : PySem.W.Frag} {mg : Str → Option Value}
theorem paired_one {CL : Addr} {H : Hp} : ∀ {es cs : List Addr}, Paired (fun e C => Exc H e C) es cs → (∀ C, C ∈ cs → XCls K C "ValueError" "ValueError.__new__" VE (.ref CL :: VE)) → Paired (One K CL H) es cs
  | _, _, .nil, _ => .nil
  | _, _, .cons r p, h => .cons ⟨r, h _ List.mem_cons_self⟩ (paired_one p fun C hC => h C (List.mem_cons_of_mem _ hC))
theorem Exc.bt {H H' : Hp} {e C th : Addr} {xs : List V} (x : Exc H e C) (ht : H th = some (.lst xs)) (s : Bt th H H') : Exc H' e C := by
  obtain ⟨d, h1, h2⟩ := x
  refine ⟨d, s _ _ h1 (ne_of h1 ht (fun z => nomatch (z : HO.ext _ = HO.lst _))), ?_⟩
  rcases h2 with h2 | ⟨dd, fs, h2, h3⟩
  · exact .inl h2
  · exact .inr ⟨dd, fs, h2, s _ _ h3 (ne_of h3 ht (fun z => nomatch (z : HO.ext _ = HO.lst _)))⟩
set_option maxHeartbeats 200000 in
theorem law_reads {CL CK CR CD CC CT CE CG CF CN CS CH CW CM : Addr} (T : Tx K mg CL CK CR CD CC CT CE CG CF CN CS CH CW CM) {a : Addr} {ns : List Int} {H : Hp} {D : Ends} (hS : SqL K H a (ns.map V.int)) (h63 : ns.length ≤ 63) (k : ∀ H', D.rt (.bl true) H') :
    tSeq (t1 K) (tSeq t2 (tSeq (t34 K CK CR CD CC "word" 3) (tSeq (t34 K CT CE CG CF "at" 4) (tSeq (t5 CH CW CM) (tSeq (t6 K CN CS) (tSeq (t7 K) (tSeq (t8 K) (tSeq t9 (tSeq (t10 K CL) (tSeq (t11 K CL 0 "KeyError") (tSeq (t11 K CL 1 "IndexError") (tSeq (t13 K CK CT) (tSeq (t14 K) (tSeq (t15 K CR CD) (tSeq (t16 K CE CF) (tSeq (t16 K CH CM) (tSeq (t16 K CW CG) (tSeq (t18 K CC) (t19 K)))))))))))))))))))
      D [some (.ref a), none, none, none, none, none, none, none, none, none, none, none, none, none, none] H := by
  refine seq_in (rd1 rfl hS h63 fun dl c H1 D1 => ?_)
  dsimp only [List.set]
  refine seq_in (rd2 rfl D1 fun th x H2 t2' => ?_)
  dsimp only [List.set]
  refine seq_in (rd34 T.xK T.xR T.xD T.xC T.nK T.nR T.nD T.nC rfl fun wl es H3 nw s3 w3 pw => ?_)
  dsimp only [List.set]
  refine seq_in (rd34 T.xT T.xE T.xG T.xF T.nT T.nE T.nG T.nF rfl fun pl qs H4 np s4 p4 pp => ?_)
  dsimp only [List.set]
  refine seq_in (rd5 fun bl bs H5 nb s5 b5 pb => ?_)
  dsimp only [List.set]
  refine seq_in (rd6 (th := th) T.xN T.xS T.nN T.nS rfl fun ol u v e1 e2 H6 no s6 o6 u6 v6 hn hs => ?_)
  dsimp only [List.set]
  have t3 := s3 _ _ t2'
  have t4 := s4 _ _ t3
  have t5 := s5 _ _ t4
  have t6 := s6 _ _ t5
  have s56 := s5.trans s6
  have s46 := s4.trans s56
  have le : es.length ≤ 100 := by rw [Paired.length pw]; show 4 ≤ 100; decide
  have lq : qs.length ≤ 100 := by rw [Paired.length pp]; show 4 ≤ 100; decide
  have lb : bs.length ≤ 100 := by rw [Paired.length pb]; show 3 ≤ 100; decide
  have pw6 := Paired.mapP pw fun e C h => Has.keep h s46
  have pp6 := Paired.mapP pp fun e C h => Has.keep h s56
  have pb6 := Paired.mapP pb fun e C h => Exc.keep h s6
  refine seq_in (rd7 (th := th) (by show 7 < 15; decide) rfl rfl rfl (s46 _ _ w3) (s56 _ _ p4) o6 le lq pw6 pp6 ⟨e1, CN, "name", u6, hn, .inr (.inr rfl)⟩ ⟨e2, CS, "at", v6, hs, .inr (.inl rfl)⟩ fun rl ts H7 nr s7 r7 l7 ok7 => ?_)
  dsimp only [List.set]
  have t7' := s7 _ _ t6
  refine seq_in (rd8 (vr := [none, none, none, none, none]) rfl t7' r7 (ne_of_none t6 nr).symm l7 ok7 fun v7 v9 H8 g8 => ?_)
  dsimp only [List.set]
  have w8 := g8 _ _ (s7 _ _ (s46 _ _ w3)) (ne_of_none t2' nw).symm
  have p8 := g8 _ _ (s7 _ _ (s56 _ _ p4)) (ne_of_none t3 np).symm
  have b8 := g8 _ _ (s7 _ _ (s6 _ _ b5)) (ne_of_none t4 nb).symm
  have o8 := g8 _ _ (s7 _ _ o6) (ne_of_none t5 no).symm
  have u8 := g8 _ _ (s7 _ _ u6) (ne_of (s7 _ _ u6) t7' (by intro z; cases z))
  have v8 := g8 _ _ (s7 _ _ v6) (ne_of (s7 _ _ v6) t7' (by intro z; cases z))
  have x1 : Exc H8 e1 CN := ((hn.keep s7).exc).bt t7' g8
  have x2 : Exc H8 e2 CS := ((hs.keep s7).exc).bt t7' g8
  have pe : Paired (fun e C => Exc H8 e C) (es ++ qs ++ bs) [CK, CR, CD, CC, CT, CE, CG, CF, CH, CW, CM] :=
    paired_app (paired_app (Paired.mapP pw6 fun e C h => Exc.bt (Has.exc (Has.keep h s7)) t7' g8) (Paired.mapP pp6 fun e C h => Exc.bt (Has.exc (Has.keep h s7)) t7' g8)) (Paired.mapP pb6 fun e C h => Exc.bt (Exc.keep h s7) t7' g8)
  have po : Paired (One K CL H8) (es ++ qs ++ bs) [CK, CR, CD, CC, CT, CE, CG, CF, CH, CW, CM] := by
    refine paired_one pe fun C hC => ?_
    simp only [List.mem_cons, List.not_mem_nil, or_false] at hC
    rcases hC with rfl | rfl | rfl | rfl | rfl | rfl | rfl | rfl | rfl | rfl | rfl
    · exact T.xK
    · exact T.xR
    · exact T.xD
    · exact T.xC
    · exact T.xT
    · exact T.xE
    · exact T.xG
    · exact T.xF
    · exact T.xH
    · exact T.xW
    · exact T.xM
  have lz : (es ++ qs ++ bs).length ≤ 100 := by rw [Paired.length po]; show 11 ≤ 100; decide
  have ml : ∀ C, C ∈ [CK, CR, CD, CC, CT, CE, CG, CF, CH, CW, CM] → C ≠ CL := fun C hC e => T.nl (by rw [← e]; exact hC)
  have one : ∀ C, C ∈ [CK, CR, CD, CC, CT, CE, CG, CF, CH, CW, CM] → cnt (who [CK, CR, CD, CC, CT, CE, CG, CF, CH, CW, CM] C) = 1 := fun C hC => cnt_one T.nd hC
  have lw : ∀ C, (who [CK, CR, CD, CC, CT, CE, CG, CF, CH, CW, CM] C).length = 11 := fun C => rfl
  -- every = words + places_here + plain
  refine seq_in (rd9 rfl rfl rfl w8 p8 b8 le lq lb fun el H9 s9 e9 => ?_)
  dsimp only [List.set]
  generalize hcs : [CK, CR, CD, CC, CT, CE, CG, CF, CH, CW, CM] = cs at po ml one lw
  generalize es ++ qs ++ bs = ev at po lz e9
  have m : ∀ C, C ∈ [CK, CR, CD, CC, CT, CE, CG, CF, CH, CW, CM] → C ∈ cs := fun C h => by rw [← hcs]; exact h
  have mK := m CK (by simp)
  have mR := m CR (by simp)
  have mD := m CD (by simp)
  have mC := m CC (by simp)
  have mT := m CT (by simp)
  have mE := m CE (by simp)
  have mG := m CG (by simp)
  have mF := m CF (by simp)
  have mH := m CH (by simp)
  have mW := m CW (by simp)
  have mM := m CM (by simp)
  clear hcs m
  have l7 : ∀ (q0 q1 q2 q3 q4 q5 q6 q7 q8 q9 q10 q11 q12 q13 q14 : Option V), 14 < [q0, q1, q2, q3, q4, q5, q6, q7, q8, q9, q10, q11, q12, q13, q14].length := fun _ _ _ _ _ _ _ _ _ _ _ _ _ _ _ => (by decide : 14 < 15)
  -- for one in every
  refine seq_in (rd10 (v0 := v7) rfl (Nat.lt_trans (by decide) (l7 ..)) rfl e9 T.xL (Paired.mapP po fun e C h => One.keep h s9) fun v10 H10 s10 => ?_)
  dsimp only [List.set]
  have s9a := s9.trans s10
  have po10 := Paired.mapP po fun e C h => One.keep h s9a
  have e10 := s10 _ _ e9
  -- the other two
  refine seq_in (rd11 (j := 0) (n := "KeyError") rfl (s9a _ _ o8) rfl (s9a _ _ u8) (x1.keep s9a) T.xN T.xL rfl T.lN mt_KE (by decide +kernel) ?_)
  dsimp only [List.set]
  refine seq_in (rd11 (j := 1) (n := "IndexError") rfl (s9a _ _ o8) rfl (s9a _ _ v8) (x2.keep s9a) T.xS T.xL rfl T.lS mt_IE (by decide +kernel) ?_)
  dsimp only [List.set]
  -- forms = ([..], [..])
  refine seq_in (rd13 (cs := cs) (Nat.lt_trans (by decide) (l7 ..)) rfl e10 lz po10 T.xK T.xT (ml _ mK) (ml _ mT) fun t l1 l2 H13 s13 t13' a13 b13 => ?_)
  dsimp only [List.set]
  refine seq_in (rd14 (l7 ..) rfl t13' a13 b13 (by rw [lw]; decide) (by rw [lw]; decide) (one _ mK) (one _ mT) fun H14 s14 => ?_)
  dsimp only [List.set]
  have sb := s13.trans s14
  refine seq_in (rd15 (cs := cs) (Nat.lt_trans (by decide) (l7 ..)) rfl (sb _ _ e10) lz (Paired.mapP po10 fun e C h => One.keep h sb) T.xR T.xD (ml _ mR) (ml _ mD) fun k1 H15 s15 f15 => ?_)
  dsimp only [List.set]
  have sc := sb.trans s15
  refine seq_in (rd16 (cs := cs) (Nat.lt_trans (by decide) (l7 ..)) rfl f15 (by rw [List.length_append, lw, lw]; decide) rfl (sc _ _ e10) lz (Paired.mapP po10 fun e C h => One.keep h sc) T.xE T.xF (ml _ mE) (ml _ mF) fun k2 H16 s16 f16 => ?_)
  dsimp only [List.set]
  have sd := sc.trans s16
  refine seq_in (rd16 (cs := cs) (Nat.lt_trans (by decide) (l7 ..)) rfl f16 (by simp only [List.length_append, lw]; decide) rfl (sd _ _ e10) lz (Paired.mapP po10 fun e C h => One.keep h sd) T.xH T.xM (ml _ mH) (ml _ mM) fun k3 H17 s17 f17 => ?_)
  dsimp only [List.set]
  have se := sd.trans s17
  refine seq_in (rd16 (cs := cs) (Nat.lt_trans (by decide) (l7 ..)) rfl f17 (by simp only [List.length_append, lw]; decide) rfl (se _ _ e10) lz (Paired.mapP po10 fun e C h => One.keep h se) T.xW T.xG (ml _ mW) (ml _ mG) fun k4 H18 s18 f18 => ?_)
  dsimp only [List.set]
  have sf := se.trans s18
  refine seq_in (rd18 (cs := cs) (Nat.lt_trans (by decide) (l7 ..)) rfl f18 (by simp only [List.length_append, lw]; decide) rfl (sf _ _ e10) lz (Paired.mapP po10 fun e C h => One.keep h sf) T.xC (ml _ mC) fun k5 H19 s19 f19 => ?_)
  dsimp only [List.set]
  refine rd19 (Nat.lt_trans (by decide) (l7 ..)) rfl f19 (by simp only [List.length_append, lw]; decide) ?_ k
  simp only [cnt_app, one _ mR, one _ mD, one _ mE, one _ mF, one _ mH, one _ mM, one _ mW, one _ mG, one _ mC]
end
end My

set_option Elab.async false
set_option maxRecDepth 100000
set_option maxHeartbeats 4000000
namespace My
open PySem L2
/-- a class's own __init__, as it is called -/
structure In (P : Program) (w : World) (K : PySem.W.Frag) (mg : Str → Option Value) (base : Heap) (C : Addr) (fld : Str) : Prop where
  ex : ∃ (f : Addr) (fd : FuncData), PySem.W.findIn K (.ref C) "__init__" = some (some (.ref f)) ∧ PySem.W.typeIn K (.ref f) = some (.type "function") ∧ FnOk P w K mg base CX0 1 f fd ["self", fld] (spInit K C fld) ∧ Binds K fd ["self", fld] [] ∧ (∀ (s : Shared) (self v : Value), BindsTo s fd ⟨[self], [(fld, v)]⟩ [("self", self), (fld, v)])
/-- law(script) -/
def spLaw (K : PySem.W.Frag) : Sp := fun vs H Q _ => ∃ (a : Addr) (ns : List Int), vs = [.ref a] ∧ SqL K H a (ns.map V.int) ∧ ns.length ≤ 63 ∧ ∀ H', Q (.bl true) H'
section
variable {P : Program} {w : World} {K : PySem.W.Frag} {mg : Str → Option Value} {base : Heap}
theorem bIsi : bootBuiltins "isinstance" = some (.builtin "isinstance") := by decide +kernel
theorem scLaw : FnScope ["script", "deal", "thing", "words", "places_here", "plain", "others", "one", "rows", "form", "every", "forms", "some", "is_one", "row"] ["script"] (defScope sLaw) := ⟨rfl, rfl, rfl, by decide +kernel, rfl, by decide +kernel, by decide +kernel⟩
theorem ok_law {f fDl fA fQ CL CK CR CD CC CT CE CG CF CN CS CH CW CM : Addr} {fd fdDl fdA fdQ : FuncData} (F : Fun K "law" "law" sLaw f fd) (T : Tx K mg CL CK CR CD CC CT CE CG CF CN CS CH CW CM) (IK : In P w K mg base CK "word") (IR : In P w K mg base CR "word") (ID : In P w K mg base CD "word") (IC : In P w K mg base CC "word") (IT : In P w K mg base CT "at") (IE : In P w K mg base CE "at") (IG : In P w K mg base CG "at") (IF : In P w K mg base CF "at") (IN : In P w K mg base CN "name") (IS : In P w K mg base CS "at")
    (GDl : FnOk P w K mg base CX0 1 fDl fdDl ["script", "base"] (spDeal K)) (bDl : Binds K fdDl ["script", "base"] []) (kDl : PySem.W.keepIn K (.ref fDl) = true) (mDl : mg "_law_deal" = some (.ref fDl))
    (GA : FnOk P w K mg base CX0 6 fA fdA ["deal", "deep"] (spAny 4)) (bA : Binds K fdA ["deal", "deep"] []) (kA : PySem.W.keepIn K (.ref fA) = true) (mA : mg "_law_any" = some (.ref fA))
    (GQ : FnOk P w K mg base CX0 1 fQ fdQ ["made", "form", "thing"] (spSame K)) (bQ : Binds K fdQ ["made", "form", "thing"] []) (kQ : PySem.W.keepIn K (.ref fQ) = true) (mQ : mg "_law_same_thing" = some (.ref fQ)) :
    FnOk P w K mg base CX0 7 f fd ["script"] (spLaw K) := by
  obtain ⟨fK, dK, iK, tK, GK, bK, kK⟩ := IK.ex
  obtain ⟨fR, dR, iR, tR, GR, bR, kR⟩ := IR.ex
  obtain ⟨fD, dD, iD, tD, GD, bD, kD⟩ := ID.ex
  obtain ⟨fC, dC, iC, tC, GC, bC, kC⟩ := IC.ex
  obtain ⟨fT, dT, iT, tT, GT, bT, kT⟩ := IT.ex
  obtain ⟨fE, dE, iE, tE, GE, bE, kE⟩ := IE.ex
  obtain ⟨fG, dG, iG, tG, GG, bG, kG⟩ := IG.ex
  obtain ⟨fF, dF, iF, tF, GF, bF, kF⟩ := IF.ex
  obtain ⟨fN, dN, iN, tN, GN, bN, kN⟩ := IN.ex
  obtain ⟨fS, dS, iS, tS, GS, bS, kS⟩ := IS.ex
  refine F.ok scLaw (fun vs H Q E h => ?_) (fun cdv A outer s H vs Q E hr h => ?_)
  · obtain ⟨a, ns, rfl, _⟩ := h
    rfl
  obtain ⟨a, ns, rfl, hS, h63, k⟩ := h
  have hr1 : Room 1 _ := hr.mono (by omega)
  have hr2 : Room 2 _ := hr.mono (by omega)
  refine ⟨tSeq (t1 K) (tSeq (t2) (tSeq (t34 K CK CR CD CC "word" 3) (tSeq (t34 K CT CE CG CF "at" 4) (tSeq (t5 CH CW CM) (tSeq (t6 K CN CS) (tSeq (t7 K) (tSeq (t8 K) (tSeq (t9) (tSeq (t10 K CL) (tSeq (t11 K CL 0 "KeyError") (tSeq (t11 K CL 1 "IndexError") (tSeq (t13 K CK CT) (tSeq (t14 K) (tSeq (t15 K CR CD) (tSeq (t16 K CE CF) (tSeq (t16 K CH CM) (tSeq (t16 K CW CG) (tSeq (t18 K CC) (t19 K))))))))))))))))))), (pss_cons (ps_set (i := 1) scLaw.nd rfl (.inl rfl) (pe_call GDl hr1 rfl mDl kDl bDl .nil pass0 (pa_cons (pv 0) (pa_cons pe_int pa_nil))))
    (pss_cons (ps_set (i := 2) scLaw.nd rfl (.inl rfl) (pe_lst (pa_cons (pe_call GA hr rfl mA kA bA .nil pass0 (pa_cons (pv 1) (pa_cons pe_int pa_nil))) pa_nil)))
    (pss_cons (ps_set (i := 3) scLaw.nd rfl (.inl rfl) (pe_lst (pa_cons (pe_xk T.xK PySem.F.excBase_ValueError iK tK GK hr2 kK rfl T.mK (pv 2)) (pa_cons (pe_x1 T.xR PySem.F.excBase_ValueError iR tR GR hr2 bR rfl T.mR (pa_cons (pv 2) pa_nil)) (pa_cons (pe_xk T.xD PySem.F.excBase_ValueError iD tD GD hr2 kD rfl T.mD (pv 2)) (pa_cons (pe_x1 T.xC PySem.F.excBase_ValueError iC tC GC hr2 bC rfl T.mC (pa_cons (pv 2) pa_nil)) pa_nil))))))
    (pss_cons (ps_set (i := 4) scLaw.nd rfl (.inl rfl) (pe_lst (pa_cons (pe_xk T.xT PySem.F.excBase_ValueError iT tT GT hr2 kT rfl T.mT (pv 2)) (pa_cons (pe_x1 T.xE PySem.F.excBase_ValueError iE tE GE hr2 bE rfl T.mE (pa_cons (pv 2) pa_nil)) (pa_cons (pe_x1 T.xG PySem.F.excBase_ValueError iG tG GG hr2 bG rfl T.mG (pa_cons (pv 2) pa_nil)) (pa_cons (pe_xk T.xF PySem.F.excBase_ValueError iF tF GF hr2 kF rfl T.mF (pv 2)) pa_nil))))))
    (pss_cons (ps_set (i := 5) scLaw.nd rfl (.inl rfl) (pe_lst (pa_cons (pe_x0 PySem.F.excBase_ValueError T.eH T.xH.kp rfl T.mH) (pa_cons (pe_x0 PySem.F.excBase_ValueError T.eW T.xW.kp rfl T.mW) (pa_cons (pe_x0 PySem.F.excBase_ValueError T.eM T.xM.kp rfl T.mM) pa_nil)))))
    (pss_cons (ps_set (i := 6) scLaw.nd rfl (.inl rfl) (pe_lst (pa_cons (pe_tup (pa_cons (pe_xk T.xN PySem.F.excBase_LookupError iN tN GN hr2 kN rfl T.mN (pv 2)) (pa_cons pe_str pa_nil))) (pa_cons (pe_tup (pa_cons (pe_xk T.xS PySem.F.excBase_IndexError iS tS GS hr2 kS rfl T.mS (pv 2)) (pa_cons pe_str pa_nil))) pa_nil))))
    (pss_cons (ps_set (i := 8) scLaw.nd rfl (.inl rfl) (pe_op op_cat (pe_op op_cat (pe_lc (own := [("one", 7)]) (g := gName 7) rfl scLaw.nd (pi_list (pv 3)) (blkOk_by (own := [("one", 7)]) (N := ["script", "deal", "thing", "words", "places_here", "plain", "others", "one", "rows", "form", "every", "forms", "some", "is_one", "row"]) (sc := defScope sLaw) (by decide +kernel)) (fun _ _ _ _ _ => pg_name (i := 7) scLaw.nd rfl (Or.inl rfl)) (fun _ _ _ _ _ => pts_nil) (fun _ _ _ _ _ => (pe_tup (pa_cons (pv 7) (pa_cons pe_str pa_nil))))) (pe_lc (own := [("one", 7)]) (g := gName 7) rfl scLaw.nd (pi_list (pv 4)) (blkOk_by (own := [("one", 7)]) (N := ["script", "deal", "thing", "words", "places_here", "plain", "others", "one", "rows", "form", "every", "forms", "some", "is_one", "row"]) (sc := defScope sLaw) (by decide +kernel)) (fun _ _ _ _ _ => pg_name (i := 7) scLaw.nd rfl (Or.inl rfl)) (fun _ _ _ _ _ => pts_nil) (fun _ _ _ _ _ => (pe_tup (pa_cons (pv 7) (pa_cons pe_str pa_nil)))))) (pv 6)))
    (pss_cons (ps_for PassesOwn.never rfl (pi_list (pv 8)) (pg_tup rfl (pgs_cons (pg_name (i := 7) scLaw.nd rfl (.inl rfl)) (pgs_cons (pg_name (i := 9) scLaw.nd rfl (.inl rfl)) pgs_nil))) (pss_one (ps_if (pt_not (pt_val (pe_call GQ hr1 rfl mQ kQ bQ .nil pass0 (pa_cons (pv 7) (pa_cons (pv 9) (pa_cons (pv 2) pa_nil)))))) (pss_one (ps_ret pe_bl)) pss_nil)))
    (pss_cons (ps_set (i := 10) scLaw.nd rfl (.inl rfl) (pe_op op_cat (pe_op op_cat (pv 3) (pv 4)) (pv 5)))
    (pss_cons (ps_for PassesOwn.never rfl (pi_list (pv 10)) (pg_name (i := 7) scLaw.nd rfl (.inl rfl)) (pss_one (ps_if (PW.pt (pw_or (pt_not (pt_val (pe_callB (call_isXK (K := K) rfl T.G) (by rfl) T.mIs bIsi (pa_cons (pv 7) (pa_cons (pe_glob (v := .ref CL) rfl T.mL rfl) pa_nil))))) (pw_or (pt_not (pt_val (pe_callB (call_isXK (K := K) rfl T.G) (by rfl) T.mIs bIsi (pa_cons (pv 7) (pa_cons (pe_bltn (v := .ty "ValueError") (by rfl) T.mVal (by decide +kernel) rfl) pa_nil))))) (pw_or1 (pt_val (pe_callB (call_isXTK (K := K) rfl T.G) (by rfl) T.mIs bIsi (pa_cons (pv 7) (pa_cons (pe_tup (pa_cons (pe_bltn (v := .ty "KeyError") (by rfl) T.mKey (by decide +kernel) rfl) (pa_cons (pe_bltn (v := .ty "IndexError") (by rfl) T.mIdx (by decide +kernel) rfl) pa_nil))) pa_nil)))))))) (pss_one (ps_ret pe_bl)) pss_nil)))
    (pss_cons (ps_if (PW.pt (pw_or (pt_val (pe_callB (call_isXK (K := K) rfl T.G) (by rfl) T.mIs bIsi (pa_cons (pe_ix ix_tup (pe_ix ix_list (pv 6) pe_int (fun _ _ => rfl)) pe_int (fun _ _ => rfl)) (pa_cons (pe_glob (v := .ref CL) rfl T.mL rfl) pa_nil)))) (pw_or1 (pt_not (pt_val (pe_callB (call_isXK (K := K) rfl T.G) (by rfl) T.mIs bIsi (pa_cons (pe_ix ix_tup (pe_ix ix_list (pv 6) pe_int (fun _ _ => rfl)) pe_int (fun _ _ => rfl)) (pa_cons (pe_bltn (v := .ty "KeyError") (by rfl) T.mKey (by decide +kernel) rfl) pa_nil)))))))) (pss_one (ps_ret pe_bl)) pss_nil)
    (pss_cons (ps_if (PW.pt (pw_or (pt_val (pe_callB (call_isXK (K := K) rfl T.G) (by rfl) T.mIs bIsi (pa_cons (pe_ix ix_tup (pe_ix ix_list (pv 6) pe_int (fun _ _ => rfl)) pe_int (fun _ _ => rfl)) (pa_cons (pe_glob (v := .ref CL) rfl T.mL rfl) pa_nil)))) (pw_or1 (pt_not (pt_val (pe_callB (call_isXK (K := K) rfl T.G) (by rfl) T.mIs bIsi (pa_cons (pe_ix ix_tup (pe_ix ix_list (pv 6) pe_int (fun _ _ => rfl)) pe_int (fun _ _ => rfl)) (pa_cons (pe_bltn (v := .ty "IndexError") (by rfl) T.mIdx (by decide +kernel) rfl) pa_nil)))))))) (pss_one (ps_ret pe_bl)) pss_nil)
    (pss_cons (ps_set (i := 11) scLaw.nd rfl (.inl rfl) (pe_tup (pa_cons (pe_lc (own := [("one", 7)]) (g := gName 7) rfl scLaw.nd (pi_list (pv 10)) (blkOk_by (own := [("one", 7)]) (N := ["script", "deal", "thing", "words", "places_here", "plain", "others", "one", "rows", "form", "every", "forms", "some", "is_one", "row"]) (sc := defScope sLaw) (by decide +kernel)) (fun _ _ _ _ _ => pg_name (i := 7) scLaw.nd rfl (Or.inl rfl)) (fun _ _ _ _ _ => pts_nil) (fun _ _ _ _ _ => (pe_callB (call_isXK (K := K) rfl T.G) (by rfl) T.mIs bIsi (pa_cons (pv 7) (pa_cons (pe_glob (v := .ref CK) rfl T.mK rfl) pa_nil))))) (pa_cons (pe_lc (own := [("one", 7)]) (g := gName 7) rfl scLaw.nd (pi_list (pv 10)) (blkOk_by (own := [("one", 7)]) (N := ["script", "deal", "thing", "words", "places_here", "plain", "others", "one", "rows", "form", "every", "forms", "some", "is_one", "row"]) (sc := defScope sLaw) (by decide +kernel)) (fun _ _ _ _ _ => pg_name (i := 7) scLaw.nd rfl (Or.inl rfl)) (fun _ _ _ _ _ => pts_nil) (fun _ _ _ _ _ => (pe_callB (call_isXK (K := K) rfl T.G) (by rfl) T.mIs bIsi (pa_cons (pv 7) (pa_cons (pe_glob (v := .ref CT) rfl T.mT rfl) pa_nil))))) pa_nil))))
    (pss_cons (ps_if (pt_cmpR (op_neD hr.units) (pe_lc (te := tCB (rLenK K) (tCons (tLc (iList K (tVar 14)) (gName 13) (tB (tVar 13)) (L2.tC (V.int 1)) [13]) tNil)) (own := [("row", 14)]) (g := gName 14) rfl scLaw.nd (pi_tup (pv 11)) (blkOk_by (own := [("row", 14)]) (N := ["script", "deal", "thing", "words", "places_here", "plain", "others", "one", "rows", "form", "every", "forms", "some", "is_one", "row"]) (sc := defScope sLaw) (by decide +kernel)) (fun _ _ _ _ _ => pg_name (i := 14) scLaw.nd rfl (Or.inl rfl)) (fun _ _ _ _ _ => pts_nil) (fun _ _ _ _ _ => ?hin)) (pe_lst (pa_cons pe_int (pa_cons pe_int pa_nil))) (nomark _)) (pss_one (ps_ret pe_bl)) pss_nil)
    (pss_cons (ps_set (i := 12) scLaw.nd rfl (.inl rfl) (pe_op op_cat (pe_lc (own := [("one", 7)]) (g := gName 7) rfl scLaw.nd (pi_list (pv 10)) (blkOk_by (own := [("one", 7)]) (N := ["script", "deal", "thing", "words", "places_here", "plain", "others", "one", "rows", "form", "every", "forms", "some", "is_one", "row"]) (sc := defScope sLaw) (by decide +kernel)) (fun _ _ _ _ _ => pg_name (i := 7) scLaw.nd rfl (Or.inl rfl)) (fun _ _ _ _ _ => pts_nil) (fun _ _ _ _ _ => (pe_callB (call_isXK (K := K) rfl T.G) (by rfl) T.mIs bIsi (pa_cons (pv 7) (pa_cons (pe_glob (v := .ref CR) rfl T.mR rfl) pa_nil))))) (pe_lc (own := [("one", 7)]) (g := gName 7) rfl scLaw.nd (pi_list (pv 10)) (blkOk_by (own := [("one", 7)]) (N := ["script", "deal", "thing", "words", "places_here", "plain", "others", "one", "rows", "form", "every", "forms", "some", "is_one", "row"]) (sc := defScope sLaw) (by decide +kernel)) (fun _ _ _ _ _ => pg_name (i := 7) scLaw.nd rfl (Or.inl rfl)) (fun _ _ _ _ _ => pts_nil) (fun _ _ _ _ _ => (pe_callB (call_isXK (K := K) rfl T.G) (by rfl) T.mIs bIsi (pa_cons (pv 7) (pa_cons (pe_glob (v := .ref CD) rfl T.mD rfl) pa_nil)))))))
    (pss_cons (ps_set (i := 12) scLaw.nd rfl (.inl rfl) (pe_op op_cat (pe_op op_cat (pv 12) (pe_lc (own := [("one", 7)]) (g := gName 7) rfl scLaw.nd (pi_list (pv 10)) (blkOk_by (own := [("one", 7)]) (N := ["script", "deal", "thing", "words", "places_here", "plain", "others", "one", "rows", "form", "every", "forms", "some", "is_one", "row"]) (sc := defScope sLaw) (by decide +kernel)) (fun _ _ _ _ _ => pg_name (i := 7) scLaw.nd rfl (Or.inl rfl)) (fun _ _ _ _ _ => pts_nil) (fun _ _ _ _ _ => (pe_callB (call_isXK (K := K) rfl T.G) (by rfl) T.mIs bIsi (pa_cons (pv 7) (pa_cons (pe_glob (v := .ref CE) rfl T.mE rfl) pa_nil)))))) (pe_lc (own := [("one", 7)]) (g := gName 7) rfl scLaw.nd (pi_list (pv 10)) (blkOk_by (own := [("one", 7)]) (N := ["script", "deal", "thing", "words", "places_here", "plain", "others", "one", "rows", "form", "every", "forms", "some", "is_one", "row"]) (sc := defScope sLaw) (by decide +kernel)) (fun _ _ _ _ _ => pg_name (i := 7) scLaw.nd rfl (Or.inl rfl)) (fun _ _ _ _ _ => pts_nil) (fun _ _ _ _ _ => (pe_callB (call_isXK (K := K) rfl T.G) (by rfl) T.mIs bIsi (pa_cons (pv 7) (pa_cons (pe_glob (v := .ref CF) rfl T.mF rfl) pa_nil)))))))
    (pss_cons (ps_set (i := 12) scLaw.nd rfl (.inl rfl) (pe_op op_cat (pe_op op_cat (pv 12) (pe_lc (own := [("one", 7)]) (g := gName 7) rfl scLaw.nd (pi_list (pv 10)) (blkOk_by (own := [("one", 7)]) (N := ["script", "deal", "thing", "words", "places_here", "plain", "others", "one", "rows", "form", "every", "forms", "some", "is_one", "row"]) (sc := defScope sLaw) (by decide +kernel)) (fun _ _ _ _ _ => pg_name (i := 7) scLaw.nd rfl (Or.inl rfl)) (fun _ _ _ _ _ => pts_nil) (fun _ _ _ _ _ => (pe_callB (call_isXK (K := K) rfl T.G) (by rfl) T.mIs bIsi (pa_cons (pv 7) (pa_cons (pe_glob (v := .ref CH) rfl T.mH rfl) pa_nil)))))) (pe_lc (own := [("one", 7)]) (g := gName 7) rfl scLaw.nd (pi_list (pv 10)) (blkOk_by (own := [("one", 7)]) (N := ["script", "deal", "thing", "words", "places_here", "plain", "others", "one", "rows", "form", "every", "forms", "some", "is_one", "row"]) (sc := defScope sLaw) (by decide +kernel)) (fun _ _ _ _ _ => pg_name (i := 7) scLaw.nd rfl (Or.inl rfl)) (fun _ _ _ _ _ => pts_nil) (fun _ _ _ _ _ => (pe_callB (call_isXK (K := K) rfl T.G) (by rfl) T.mIs bIsi (pa_cons (pv 7) (pa_cons (pe_glob (v := .ref CM) rfl T.mM rfl) pa_nil)))))))
    (pss_cons (ps_set (i := 12) scLaw.nd rfl (.inl rfl) (pe_op op_cat (pe_op op_cat (pv 12) (pe_lc (own := [("one", 7)]) (g := gName 7) rfl scLaw.nd (pi_list (pv 10)) (blkOk_by (own := [("one", 7)]) (N := ["script", "deal", "thing", "words", "places_here", "plain", "others", "one", "rows", "form", "every", "forms", "some", "is_one", "row"]) (sc := defScope sLaw) (by decide +kernel)) (fun _ _ _ _ _ => pg_name (i := 7) scLaw.nd rfl (Or.inl rfl)) (fun _ _ _ _ _ => pts_nil) (fun _ _ _ _ _ => (pe_callB (call_isXK (K := K) rfl T.G) (by rfl) T.mIs bIsi (pa_cons (pv 7) (pa_cons (pe_glob (v := .ref CW) rfl T.mW rfl) pa_nil)))))) (pe_lc (own := [("one", 7)]) (g := gName 7) rfl scLaw.nd (pi_list (pv 10)) (blkOk_by (own := [("one", 7)]) (N := ["script", "deal", "thing", "words", "places_here", "plain", "others", "one", "rows", "form", "every", "forms", "some", "is_one", "row"]) (sc := defScope sLaw) (by decide +kernel)) (fun _ _ _ _ _ => pg_name (i := 7) scLaw.nd rfl (Or.inl rfl)) (fun _ _ _ _ _ => pts_nil) (fun _ _ _ _ _ => (pe_callB (call_isXK (K := K) rfl T.G) (by rfl) T.mIs bIsi (pa_cons (pv 7) (pa_cons (pe_glob (v := .ref CG) rfl T.mG rfl) pa_nil)))))))
    (pss_cons (ps_set (i := 12) scLaw.nd rfl (.inl rfl) (pe_op op_cat (pv 12) (pe_lc (own := [("one", 7)]) (g := gName 7) rfl scLaw.nd (pi_list (pv 10)) (blkOk_by (own := [("one", 7)]) (N := ["script", "deal", "thing", "words", "places_here", "plain", "others", "one", "rows", "form", "every", "forms", "some", "is_one", "row"]) (sc := defScope sLaw) (by decide +kernel)) (fun _ _ _ _ _ => pg_name (i := 7) scLaw.nd rfl (Or.inl rfl)) (fun _ _ _ _ _ => pts_nil) (fun _ _ _ _ _ => (pe_callB (call_isXK (K := K) rfl T.G) (by rfl) T.mIs bIsi (pa_cons (pv 7) (pa_cons (pe_glob (v := .ref CC) rfl T.mC rfl) pa_nil)))))))
    (pss_one (ps_ret (pe_cmpR op_eq (pe_callB call_len_seq rfl T.mLen PySem.boot_len (pa_cons (pe_lc (own := [("is_one", 13)]) (g := gName 13) rfl scLaw.nd (pi_list (pv 12)) (blkOk_by (own := [("is_one", 13)]) (N := ["script", "deal", "thing", "words", "places_here", "plain", "others", "one", "rows", "form", "every", "forms", "some", "is_one", "row"]) (sc := defScope sLaw) (by decide +kernel)) (fun _ _ _ _ _ => pg_name (i := 13) scLaw.nd rfl (Or.inl rfl)) (fun _ _ _ _ _ => pts_one (pt_val (pv 13))) (fun _ _ _ _ _ => pe_int)) pa_nil)) pe_int (nomark _))))))))))))))))))))))), ?rd⟩
  case hin =>
    refine pe_callB (call_lenK (K := K) rfl) rfl T.mLen PySem.boot_len (pa_cons ?_ pa_nil)
    exact (pe_lc (own := [("is_one", 13)]) (g := gName 13) rfl scLaw.nd (pi_listK (K := K) rfl (pv 14)) (blkOk_by (own := [("is_one", 13)]) (N := ["script", "deal", "thing", "words", "places_here", "plain", "others", "one", "rows", "form", "every", "forms", "some", "is_one", "row"]) (by rfl)) (fun _ _ _ _ _ => pg_name (i := 13) scLaw.nd rfl (Or.inl rfl)) (fun _ _ _ _ _ => pts_one (pt_val (pv 13))) (fun _ _ _ _ _ => pe_int))
  case rd => exact law_reads T hS h63 k
end
end My

set_option Elab.async false
set_option maxRecDepth 100000
set_option maxHeartbeats 4000000
namespace My
open PySem L2
theorem any_all {P : Program} {w : World} {K : PySem.W.Frag} {mg : Str → Option Value} {base : Heap} {f fD fP : Addr} {fd fdD fdP : FuncData} (F : Fun K "_law_any" "_law_any" sAny f fd) (GD : FnOk P w K mg base CX0 1 fD fdD ["deal", "wide"] spDraw) (bD : Binds K fdD ["deal", "wide"] []) (kD : PySem.W.keepIn K (.ref fD) = true) (mD : mg "_law_draw" = some (.ref fD))
    (GP : FnOk P w K mg base CX0 2 fP fdP ["deal", "some"] (spPick K)) (bP : Binds K fdP ["deal", "some"] []) (kP : PySem.W.keepIn K (.ref fP) = true) (mP : mg "_law_pick" = some (.ref fP)) (bA : Binds K fd ["deal", "deep"] []) (mA : mg "_law_any" = some (.ref f)) (mr : mg "range" = none) (mt : mg "tuple" = none) :
    ∀ n : Nat, FnOk P w K mg base CX0 (n + 2) f fd ["deal", "deep"] (spAny n)
  | 0 => any_none
  | n + 1 => ok_any F GD bD kD mD GP bP kP mP (any_all F GD bD kD mD GP bP kP mP bA mA mr mt n) bA mA mr mt
theorem xm_VE {CL : Addr} : XM (.ref CL :: VE) "ValueError" := ⟨rfl, rfl, rfl⟩
theorem xm_L : XM VE "ValueError" := ⟨by decide +kernel, by decide +kernel, by decide +kernel⟩
theorem xm_KE : XM KEt "LookupError" := ⟨by decide +kernel, by decide +kernel, by decide +kernel⟩
theorem xm_IE : XM IEt "IndexError" := ⟨by decide +kernel, by decide +kernel, by decide +kernel⟩
theorem all_mk {l : PySem.W.OpenLaw} {w : World} {K : PySem.W.Frag} {h : Heap} {mg : Str → Option Value} {fa CL CK CR CD CC CT CE CG CF CN CS CH CW CM f1 f2 f3 f4 f5 f6 fIK fIR fID fIC fIT fIE fIG fIF fIN fIS : Addr} (X : K.In h) (G : h.Ns mainGlobals mg) (hfa : mg "law" = some (.ref fa))
    {od1 an1 od2 an2 od3 an3 od4 an4 od5 an5 od6 an6 odIK anIK odIR anIR odID anID odIC anIC odIT anIT odIE anIE odIG anIG odIF anIF odIN anIN odIS anIS : Option Addr} {sl1 sl2 sl3 sl4 sl5 sl6 slIK slIR slID slIC slIT slIE slIG slIF slIN slIS : Array (Option Value)} {oc1 kV1 dc1 pm1 cd1 ct1 oc2 kV2 dc2 pm2 cd2 ct2 oc3 kV3 dc3 pm3 cd3 ct3 oc4 kV4 dc4 pm4 cd4 ct4 oc5 kV5 dc5 pm5 cd5 ct5 oc6 kV6 dc6 pm6 cd6 ct6 ocIK kVIK dcIK pmIK cdIK ctIK ocIR kVIR dcIR pmIR cdIR ctIR ocID kVID dcID pmID cdID ctID ocIC kVIC dcIC pmIC cdIC ctIC ocIT kVIT dcIT pmIT cdIT ctIT ocIE kVIE dcIE pmIE cdIE ctIE ocIG kVIG dcIG pmIG cdIG ctIG ocIF kVIF dcIF pmIF cdIF ctIF ocIN kVIN dcIN pmIN cdIN ctIN ocIS kVIS dcIS pmIS cdIS ctIS : Value}
    {qmL qqL qmK qqK qmR qqR qmD qqD qmC qqC qmT qqT qmE qqE qmG qqG qmF qqF qmN qqN qmS qqS qmH qqH qmW qqW qmM qqM : Str} {qNL qNK qNR qND qNC qNT qNE qNG qNF qNN qNS qNH qNW qNM : Addr} {qbL qsL qbK qsK qbR qsR qbD qsD qbC qsC qbT qsT qbE qsE qbG qsG qbF qsF qbN qsN qbS qsS qbH qsH qbW qsW qbM qsM : List Value} {qnL qnK qnR qnD qnC qnT qnE qnG qnF qnN qnS qnH qnW qnM : List Str} {qaL qaK qaR qaD qaC qaT qaE qaG qaF qaN qaS qaH qaW qaM : Bool} {qcL qcK qcR qcD qcC qcT qcE qcG qcF qcN qcS qcH qcW qcM : Option Bool} {qdL qdK qdR qdD qdC qdT qdE qdG qdF qdN qdS qdH qdW qdM : Option Addr} {k0L k1L k2L k3L k5L k0K k1K k2K k3K k5K k0R k1R k2R k3R k5R k0D k1D k2D k3D k5D k0C k1C k2C k3C k5C k0T k1T k2T k3T k5T k0E k1E k2E k3E k5E k0G k1G k2G k3G k5G k0F k1F k2F k3F k5F k0N k1N k2N k3N k5N k0S k1S k2S k3S k5S k0H k1H k2H k3H k5H k0W k1W k2W k3W k5W k0M k1M k2M k3M k5M : Option Value}
    (gL : PySem.W.nsIn K mainGlobals "LookError" = some (some (.ref CL)))
    (gK : PySem.W.nsIn K mainGlobals "InvalidKind" = some (some (.ref CK)))
    (gR : PySem.W.nsIn K mainGlobals "InvalidReader" = some (some (.ref CR)))
    (gD : PySem.W.nsIn K mainGlobals "InvalidDesign" = some (some (.ref CD)))
    (gC : PySem.W.nsIn K mainGlobals "InvalidChange" = some (some (.ref CC)))
    (gT : PySem.W.nsIn K mainGlobals "InvalidText" = some (some (.ref CT)))
    (gE : PySem.W.nsIn K mainGlobals "InvalidEvent" = some (some (.ref CE)))
    (gG : PySem.W.nsIn K mainGlobals "InvalidLog" = some (some (.ref CG)))
    (gF : PySem.W.nsIn K mainGlobals "Refused" = some (some (.ref CF)))
    (gN : PySem.W.nsIn K mainGlobals "NoName" = some (some (.ref CN)))
    (gS : PySem.W.nsIn K mainGlobals "NoStep" = some (some (.ref CS)))
    (gH : PySem.W.nsIn K mainGlobals "InvalidHarm" = some (some (.ref CH)))
    (gW : PySem.W.nsIn K mainGlobals "InvalidWord" = some (some (.ref CW)))
    (gM : PySem.W.nsIn K mainGlobals "InvalidCommand" = some (some (.ref CM)))
    (jL : K.lookup CL = some (excClassObj qmL qqL CL qNL qbL VE true qnL qsL qaL qcL qdL k0L k1L k2L k3L k5L "ValueError.__new__"))
    (saL : PySem.W.findIn K (.ref CL) "__setattr__" = some (some (.builtin "object.__setattr__")))
    (gaL : PySem.W.findIn K (.ref CL) "__getattribute__" = some (some (.builtin "BaseException.__getattribute__")))
    (ggL : PySem.W.findIn K (.ref CL) "__getattr__" = some none)
    (kcL : PySem.W.findIn K (.ref CL) "__class__" = some (some (.builtin "object.__class__")))
    (kpL : PySem.W.keepIn K (.ref CL) = true)
    (jK : K.lookup CK = some (excClassObj qmK qqK CK qNK qbK (.ref CL :: VE) true qnK qsK qaK qcK qdK k0K k1K k2K k3K k5K "ValueError.__new__"))
    (saK : PySem.W.findIn K (.ref CK) "__setattr__" = some (some (.builtin "object.__setattr__")))
    (gaK : PySem.W.findIn K (.ref CK) "__getattribute__" = some (some (.builtin "BaseException.__getattribute__")))
    (ggK : PySem.W.findIn K (.ref CK) "__getattr__" = some none)
    (kcK : PySem.W.findIn K (.ref CK) "__class__" = some (some (.builtin "object.__class__")))
    (kpK : PySem.W.keepIn K (.ref CK) = true)
    (jR : K.lookup CR = some (excClassObj qmR qqR CR qNR qbR (.ref CL :: VE) true qnR qsR qaR qcR qdR k0R k1R k2R k3R k5R "ValueError.__new__"))
    (saR : PySem.W.findIn K (.ref CR) "__setattr__" = some (some (.builtin "object.__setattr__")))
    (gaR : PySem.W.findIn K (.ref CR) "__getattribute__" = some (some (.builtin "BaseException.__getattribute__")))
    (ggR : PySem.W.findIn K (.ref CR) "__getattr__" = some none)
    (kcR : PySem.W.findIn K (.ref CR) "__class__" = some (some (.builtin "object.__class__")))
    (kpR : PySem.W.keepIn K (.ref CR) = true)
    (jD : K.lookup CD = some (excClassObj qmD qqD CD qND qbD (.ref CL :: VE) true qnD qsD qaD qcD qdD k0D k1D k2D k3D k5D "ValueError.__new__"))
    (saD : PySem.W.findIn K (.ref CD) "__setattr__" = some (some (.builtin "object.__setattr__")))
    (gaD : PySem.W.findIn K (.ref CD) "__getattribute__" = some (some (.builtin "BaseException.__getattribute__")))
    (ggD : PySem.W.findIn K (.ref CD) "__getattr__" = some none)
    (kcD : PySem.W.findIn K (.ref CD) "__class__" = some (some (.builtin "object.__class__")))
    (kpD : PySem.W.keepIn K (.ref CD) = true)
    (jC : K.lookup CC = some (excClassObj qmC qqC CC qNC qbC (.ref CL :: VE) true qnC qsC qaC qcC qdC k0C k1C k2C k3C k5C "ValueError.__new__"))
    (saC : PySem.W.findIn K (.ref CC) "__setattr__" = some (some (.builtin "object.__setattr__")))
    (gaC : PySem.W.findIn K (.ref CC) "__getattribute__" = some (some (.builtin "BaseException.__getattribute__")))
    (ggC : PySem.W.findIn K (.ref CC) "__getattr__" = some none)
    (kcC : PySem.W.findIn K (.ref CC) "__class__" = some (some (.builtin "object.__class__")))
    (kpC : PySem.W.keepIn K (.ref CC) = true)
    (jT : K.lookup CT = some (excClassObj qmT qqT CT qNT qbT (.ref CL :: VE) true qnT qsT qaT qcT qdT k0T k1T k2T k3T k5T "ValueError.__new__"))
    (saT : PySem.W.findIn K (.ref CT) "__setattr__" = some (some (.builtin "object.__setattr__")))
    (gaT : PySem.W.findIn K (.ref CT) "__getattribute__" = some (some (.builtin "BaseException.__getattribute__")))
    (ggT : PySem.W.findIn K (.ref CT) "__getattr__" = some none)
    (kcT : PySem.W.findIn K (.ref CT) "__class__" = some (some (.builtin "object.__class__")))
    (kpT : PySem.W.keepIn K (.ref CT) = true)
    (jE : K.lookup CE = some (excClassObj qmE qqE CE qNE qbE (.ref CL :: VE) true qnE qsE qaE qcE qdE k0E k1E k2E k3E k5E "ValueError.__new__"))
    (saE : PySem.W.findIn K (.ref CE) "__setattr__" = some (some (.builtin "object.__setattr__")))
    (gaE : PySem.W.findIn K (.ref CE) "__getattribute__" = some (some (.builtin "BaseException.__getattribute__")))
    (ggE : PySem.W.findIn K (.ref CE) "__getattr__" = some none)
    (kcE : PySem.W.findIn K (.ref CE) "__class__" = some (some (.builtin "object.__class__")))
    (kpE : PySem.W.keepIn K (.ref CE) = true)
    (jG : K.lookup CG = some (excClassObj qmG qqG CG qNG qbG (.ref CL :: VE) true qnG qsG qaG qcG qdG k0G k1G k2G k3G k5G "ValueError.__new__"))
    (saG : PySem.W.findIn K (.ref CG) "__setattr__" = some (some (.builtin "object.__setattr__")))
    (gaG : PySem.W.findIn K (.ref CG) "__getattribute__" = some (some (.builtin "BaseException.__getattribute__")))
    (ggG : PySem.W.findIn K (.ref CG) "__getattr__" = some none)
    (kcG : PySem.W.findIn K (.ref CG) "__class__" = some (some (.builtin "object.__class__")))
    (kpG : PySem.W.keepIn K (.ref CG) = true)
    (jF : K.lookup CF = some (excClassObj qmF qqF CF qNF qbF (.ref CL :: VE) true qnF qsF qaF qcF qdF k0F k1F k2F k3F k5F "ValueError.__new__"))
    (saF : PySem.W.findIn K (.ref CF) "__setattr__" = some (some (.builtin "object.__setattr__")))
    (gaF : PySem.W.findIn K (.ref CF) "__getattribute__" = some (some (.builtin "BaseException.__getattribute__")))
    (ggF : PySem.W.findIn K (.ref CF) "__getattr__" = some none)
    (kcF : PySem.W.findIn K (.ref CF) "__class__" = some (some (.builtin "object.__class__")))
    (kpF : PySem.W.keepIn K (.ref CF) = true)
    (jN : K.lookup CN = some (excClassObj qmN qqN CN qNN qbN KEt true qnN qsN qaN qcN qdN k0N k1N k2N k3N k5N "LookupError.__new__"))
    (saN : PySem.W.findIn K (.ref CN) "__setattr__" = some (some (.builtin "object.__setattr__")))
    (gaN : PySem.W.findIn K (.ref CN) "__getattribute__" = some (some (.builtin "BaseException.__getattribute__")))
    (ggN : PySem.W.findIn K (.ref CN) "__getattr__" = some none)
    (kcN : PySem.W.findIn K (.ref CN) "__class__" = some (some (.builtin "object.__class__")))
    (kpN : PySem.W.keepIn K (.ref CN) = true)
    (jS : K.lookup CS = some (excClassObj qmS qqS CS qNS qbS IEt true qnS qsS qaS qcS qdS k0S k1S k2S k3S k5S "IndexError.__new__"))
    (saS : PySem.W.findIn K (.ref CS) "__setattr__" = some (some (.builtin "object.__setattr__")))
    (gaS : PySem.W.findIn K (.ref CS) "__getattribute__" = some (some (.builtin "BaseException.__getattribute__")))
    (ggS : PySem.W.findIn K (.ref CS) "__getattr__" = some none)
    (kcS : PySem.W.findIn K (.ref CS) "__class__" = some (some (.builtin "object.__class__")))
    (kpS : PySem.W.keepIn K (.ref CS) = true)
    (jH : K.lookup CH = some (excClassObj qmH qqH CH qNH qbH (.ref CL :: VE) true qnH qsH qaH qcH qdH k0H k1H k2H k3H k5H "ValueError.__new__"))
    (saH : PySem.W.findIn K (.ref CH) "__setattr__" = some (some (.builtin "object.__setattr__")))
    (gaH : PySem.W.findIn K (.ref CH) "__getattribute__" = some (some (.builtin "BaseException.__getattribute__")))
    (ggH : PySem.W.findIn K (.ref CH) "__getattr__" = some none)
    (kcH : PySem.W.findIn K (.ref CH) "__class__" = some (some (.builtin "object.__class__")))
    (kpH : PySem.W.keepIn K (.ref CH) = true)
    (jW : K.lookup CW = some (excClassObj qmW qqW CW qNW qbW (.ref CL :: VE) true qnW qsW qaW qcW qdW k0W k1W k2W k3W k5W "ValueError.__new__"))
    (saW : PySem.W.findIn K (.ref CW) "__setattr__" = some (some (.builtin "object.__setattr__")))
    (gaW : PySem.W.findIn K (.ref CW) "__getattribute__" = some (some (.builtin "BaseException.__getattribute__")))
    (ggW : PySem.W.findIn K (.ref CW) "__getattr__" = some none)
    (kcW : PySem.W.findIn K (.ref CW) "__class__" = some (some (.builtin "object.__class__")))
    (kpW : PySem.W.keepIn K (.ref CW) = true)
    (jM : K.lookup CM = some (excClassObj qmM qqM CM qNM qbM (.ref CL :: VE) true qnM qsM qaM qcM qdM k0M k1M k2M k3M k5M "ValueError.__new__"))
    (saM : PySem.W.findIn K (.ref CM) "__setattr__" = some (some (.builtin "object.__setattr__")))
    (gaM : PySem.W.findIn K (.ref CM) "__getattribute__" = some (some (.builtin "BaseException.__getattribute__")))
    (ggM : PySem.W.findIn K (.ref CM) "__getattr__" = some none)
    (kcM : PySem.W.findIn K (.ref CM) "__class__" = some (some (.builtin "object.__class__")))
    (kpM : PySem.W.keepIn K (.ref CM) = true)
    (noK : PySem.W.findIn K (.ref CK) "word" = some none)
    (noR : PySem.W.findIn K (.ref CR) "word" = some none)
    (noD : PySem.W.findIn K (.ref CD) "word" = some none)
    (noC : PySem.W.findIn K (.ref CC) "word" = some none)
    (noT : PySem.W.findIn K (.ref CT) "at" = some none)
    (noE : PySem.W.findIn K (.ref CE) "at" = some none)
    (noG : PySem.W.findIn K (.ref CG) "at" = some none)
    (noF : PySem.W.findIn K (.ref CF) "at" = some none)
    (noN : PySem.W.findIn K (.ref CN) "name" = some none)
    (noS : PySem.W.findIn K (.ref CS) "at" = some none)
    (exH : PySem.W.excIn K CH VE "ValueError.__new__" = true)
    (exW : PySem.W.excIn K CW VE "ValueError.__new__" = true)
    (exM : PySem.W.excIn K CM VE "ValueError.__new__" = true)
    (a1 : PySem.W.nsIn K mainGlobals "_law_deal" = some (some (.ref f1)))
    (l1 : K.lookup f1 = some ⟨oc1, od1, .func (PySem.W.fnOf "_law_deal" "_law_deal" (defArgs sDeal) (defBody sDeal) (defScope sDeal) .none kV1 dc1 pm1 an1 cd1 ct1), sl1⟩)
    (c1 : PySem.W.codeIn K cd1 "_law_deal" = true)
    (k1 : PySem.W.keepIn K (.ref f1) = true)
    (a2 : PySem.W.nsIn K mainGlobals "_law_draw" = some (some (.ref f2)))
    (l2 : K.lookup f2 = some ⟨oc2, od2, .func (PySem.W.fnOf "_law_draw" "_law_draw" (defArgs sDraw) (defBody sDraw) (defScope sDraw) .none kV2 dc2 pm2 an2 cd2 ct2), sl2⟩)
    (c2 : PySem.W.codeIn K cd2 "_law_draw" = true)
    (k2 : PySem.W.keepIn K (.ref f2) = true)
    (a3 : PySem.W.nsIn K mainGlobals "_law_pick" = some (some (.ref f3)))
    (l3 : K.lookup f3 = some ⟨oc3, od3, .func (PySem.W.fnOf "_law_pick" "_law_pick" (defArgs sPick) (defBody sPick) (defScope sPick) .none kV3 dc3 pm3 an3 cd3 ct3), sl3⟩)
    (c3 : PySem.W.codeIn K cd3 "_law_pick" = true)
    (k3 : PySem.W.keepIn K (.ref f3) = true)
    (a4 : PySem.W.nsIn K mainGlobals "_law_any" = some (some (.ref f4)))
    (l4 : K.lookup f4 = some ⟨oc4, od4, .func (PySem.W.fnOf "_law_any" "_law_any" (defArgs sAny) (defBody sAny) (defScope sAny) .none kV4 dc4 pm4 an4 cd4 ct4), sl4⟩)
    (c4 : PySem.W.codeIn K cd4 "_law_any" = true)
    (k4 : PySem.W.keepIn K (.ref f4) = true)
    (a5 : PySem.W.nsIn K mainGlobals "_law_same_thing" = some (some (.ref f5)))
    (l5 : K.lookup f5 = some ⟨oc5, od5, .func (PySem.W.fnOf "_law_same_thing" "_law_same_thing" (defArgs sSame) (defBody sSame) (defScope sSame) .none kV5 dc5 pm5 an5 cd5 ct5), sl5⟩)
    (c5 : PySem.W.codeIn K cd5 "_law_same_thing" = true)
    (k5 : PySem.W.keepIn K (.ref f5) = true)
    (a6 : PySem.W.nsIn K mainGlobals "law" = some (some (.ref f6)))
    (l6 : K.lookup f6 = some ⟨oc6, od6, .func (PySem.W.fnOf "law" "law" (defArgs sLaw) (defBody sLaw) (defScope sLaw) .none kV6 dc6 pm6 an6 cd6 ct6), sl6⟩)
    (c6 : PySem.W.codeIn K cd6 "law" = true)
    (k6 : PySem.W.keepIn K (.ref f6) = true)
    (aIK : PySem.W.findIn K (.ref CK) "__init__" = some (some (.ref fIK)))
    (tIK : PySem.W.typeIn K (.ref fIK) = some (.type "function"))
    (lIK : K.lookup fIK = some ⟨ocIK, odIK, .func (PySem.W.fnOf "__init__" "InvalidKind.__init__" (defArgs sIK) (defBody sIK) (defScope sIK) .none kVIK dcIK pmIK anIK cdIK ctIK), slIK⟩)
    (cIK : PySem.W.codeIn K cdIK "InvalidKind.__init__" = true)
    (kIK : PySem.W.keepIn K (.ref fIK) = true)
    (aIR : PySem.W.findIn K (.ref CR) "__init__" = some (some (.ref fIR)))
    (tIR : PySem.W.typeIn K (.ref fIR) = some (.type "function"))
    (lIR : K.lookup fIR = some ⟨ocIR, odIR, .func (PySem.W.fnOf "__init__" "InvalidReader.__init__" (defArgs sIR) (defBody sIR) (defScope sIR) .none kVIR dcIR pmIR anIR cdIR ctIR), slIR⟩)
    (cIR : PySem.W.codeIn K cdIR "InvalidReader.__init__" = true)
    (kIR : PySem.W.keepIn K (.ref fIR) = true)
    (aID : PySem.W.findIn K (.ref CD) "__init__" = some (some (.ref fID)))
    (tID : PySem.W.typeIn K (.ref fID) = some (.type "function"))
    (lID : K.lookup fID = some ⟨ocID, odID, .func (PySem.W.fnOf "__init__" "InvalidDesign.__init__" (defArgs sID) (defBody sID) (defScope sID) .none kVID dcID pmID anID cdID ctID), slID⟩)
    (cID : PySem.W.codeIn K cdID "InvalidDesign.__init__" = true)
    (kID : PySem.W.keepIn K (.ref fID) = true)
    (aIC : PySem.W.findIn K (.ref CC) "__init__" = some (some (.ref fIC)))
    (tIC : PySem.W.typeIn K (.ref fIC) = some (.type "function"))
    (lIC : K.lookup fIC = some ⟨ocIC, odIC, .func (PySem.W.fnOf "__init__" "InvalidChange.__init__" (defArgs sIC) (defBody sIC) (defScope sIC) .none kVIC dcIC pmIC anIC cdIC ctIC), slIC⟩)
    (cIC : PySem.W.codeIn K cdIC "InvalidChange.__init__" = true)
    (kIC : PySem.W.keepIn K (.ref fIC) = true)
    (aIT : PySem.W.findIn K (.ref CT) "__init__" = some (some (.ref fIT)))
    (tIT : PySem.W.typeIn K (.ref fIT) = some (.type "function"))
    (lIT : K.lookup fIT = some ⟨ocIT, odIT, .func (PySem.W.fnOf "__init__" "InvalidText.__init__" (defArgs sIT) (defBody sIT) (defScope sIT) .none kVIT dcIT pmIT anIT cdIT ctIT), slIT⟩)
    (cIT : PySem.W.codeIn K cdIT "InvalidText.__init__" = true)
    (kIT : PySem.W.keepIn K (.ref fIT) = true)
    (aIE : PySem.W.findIn K (.ref CE) "__init__" = some (some (.ref fIE)))
    (tIE : PySem.W.typeIn K (.ref fIE) = some (.type "function"))
    (lIE : K.lookup fIE = some ⟨ocIE, odIE, .func (PySem.W.fnOf "__init__" "InvalidEvent.__init__" (defArgs sIE) (defBody sIE) (defScope sIE) .none kVIE dcIE pmIE anIE cdIE ctIE), slIE⟩)
    (cIE : PySem.W.codeIn K cdIE "InvalidEvent.__init__" = true)
    (kIE : PySem.W.keepIn K (.ref fIE) = true)
    (aIG : PySem.W.findIn K (.ref CG) "__init__" = some (some (.ref fIG)))
    (tIG : PySem.W.typeIn K (.ref fIG) = some (.type "function"))
    (lIG : K.lookup fIG = some ⟨ocIG, odIG, .func (PySem.W.fnOf "__init__" "InvalidLog.__init__" (defArgs sIG) (defBody sIG) (defScope sIG) .none kVIG dcIG pmIG anIG cdIG ctIG), slIG⟩)
    (cIG : PySem.W.codeIn K cdIG "InvalidLog.__init__" = true)
    (kIG : PySem.W.keepIn K (.ref fIG) = true)
    (aIF : PySem.W.findIn K (.ref CF) "__init__" = some (some (.ref fIF)))
    (tIF : PySem.W.typeIn K (.ref fIF) = some (.type "function"))
    (lIF : K.lookup fIF = some ⟨ocIF, odIF, .func (PySem.W.fnOf "__init__" "Refused.__init__" (defArgs sIF) (defBody sIF) (defScope sIF) .none kVIF dcIF pmIF anIF cdIF ctIF), slIF⟩)
    (cIF : PySem.W.codeIn K cdIF "Refused.__init__" = true)
    (kIF : PySem.W.keepIn K (.ref fIF) = true)
    (aIN : PySem.W.findIn K (.ref CN) "__init__" = some (some (.ref fIN)))
    (tIN : PySem.W.typeIn K (.ref fIN) = some (.type "function"))
    (lIN : K.lookup fIN = some ⟨ocIN, odIN, .func (PySem.W.fnOf "__init__" "NoName.__init__" (defArgs sIN) (defBody sIN) (defScope sIN) .none kVIN dcIN pmIN anIN cdIN ctIN), slIN⟩)
    (cIN : PySem.W.codeIn K cdIN "NoName.__init__" = true)
    (kIN : PySem.W.keepIn K (.ref fIN) = true)
    (aIS : PySem.W.findIn K (.ref CS) "__init__" = some (some (.ref fIS)))
    (tIS : PySem.W.typeIn K (.ref fIS) = some (.type "function"))
    (lIS : K.lookup fIS = some ⟨ocIS, odIS, .func (PySem.W.fnOf "__init__" "NoStep.__init__" (defArgs sIS) (defBody sIS) (defScope sIS) .none kVIS dcIS pmIS anIS cdIS ctIS), slIS⟩)
    (cIS : PySem.W.codeIn K cdIS "NoStep.__init__" = true)
    (kIS : PySem.W.keepIn K (.ref fIS) = true)
    (z_int : PySem.W.nsIn K mainGlobals "int" = some none)
    (z_abs : PySem.W.nsIn K mainGlobals "abs" = some none)
    (z_len : PySem.W.nsIn K mainGlobals "len" = some none)
    (z_range : PySem.W.nsIn K mainGlobals "range" = some none)
    (z_tuple : PySem.W.nsIn K mainGlobals "tuple" = some none)
    (z_isinstance : PySem.W.nsIn K mainGlobals "isinstance" = some none)
    (z_ValueError : PySem.W.nsIn K mainGlobals "ValueError" = some none)
    (z_KeyError : PySem.W.nsIn K mainGlobals "KeyError" = some none)
    (z_IndexError : PySem.W.nsIn K mainGlobals "IndexError" = some none)
    (hx1 : PySem.W.specialIn K (.builtin "object.__class__") "__get__" = some (some (.builtin "getset_descriptor.__get__")))
    (hx2 : PySem.W.takesIn K (.builtin "object.__class__") = some true)
    (nd : [CK, CR, CD, CC, CT, CE, CG, CF, CH, CW, CM].Nodup)
    (nl : CL ∉ [CK, CR, CD, CC, CT, CE, CG, CF, CH, CW, CM])
    (lN : CL ≠ CN)
    (lS : CL ≠ CS) :
    ∃ fd : FuncData, (∀ (s : Shared) (v : Value), BindsTo s fd ⟨[v], []⟩ [("script", v)]) ∧ ∀ base : Heap, K.In base → base.Ns mainGlobals mg → FnOk l.prog w K mg base CX0 7 fa fd ["script"] (spLaw K) := by
  have e := hfa.symm.trans (PySem.W.mg_of X G a6)
  cases e
  have XL : XCls K CL "ValueError" "ValueError.__new__" VE VE := ⟨⟨_, _, _, _, _, _, _, _, _, _, _, _, _, _, jL⟩, rfl, xm_L, rfl, rfl, saL, gaL, ggL, kcL, kpL⟩
  have XK : XCls K CK "ValueError" "ValueError.__new__" VE (.ref CL :: VE) := ⟨⟨_, _, _, _, _, _, _, _, _, _, _, _, _, _, jK⟩, rfl, xm_VE, rfl, rfl, saK, gaK, ggK, kcK, kpK⟩
  have XR : XCls K CR "ValueError" "ValueError.__new__" VE (.ref CL :: VE) := ⟨⟨_, _, _, _, _, _, _, _, _, _, _, _, _, _, jR⟩, rfl, xm_VE, rfl, rfl, saR, gaR, ggR, kcR, kpR⟩
  have XD : XCls K CD "ValueError" "ValueError.__new__" VE (.ref CL :: VE) := ⟨⟨_, _, _, _, _, _, _, _, _, _, _, _, _, _, jD⟩, rfl, xm_VE, rfl, rfl, saD, gaD, ggD, kcD, kpD⟩
  have XC : XCls K CC "ValueError" "ValueError.__new__" VE (.ref CL :: VE) := ⟨⟨_, _, _, _, _, _, _, _, _, _, _, _, _, _, jC⟩, rfl, xm_VE, rfl, rfl, saC, gaC, ggC, kcC, kpC⟩
  have XT : XCls K CT "ValueError" "ValueError.__new__" VE (.ref CL :: VE) := ⟨⟨_, _, _, _, _, _, _, _, _, _, _, _, _, _, jT⟩, rfl, xm_VE, rfl, rfl, saT, gaT, ggT, kcT, kpT⟩
  have XE : XCls K CE "ValueError" "ValueError.__new__" VE (.ref CL :: VE) := ⟨⟨_, _, _, _, _, _, _, _, _, _, _, _, _, _, jE⟩, rfl, xm_VE, rfl, rfl, saE, gaE, ggE, kcE, kpE⟩
  have XG : XCls K CG "ValueError" "ValueError.__new__" VE (.ref CL :: VE) := ⟨⟨_, _, _, _, _, _, _, _, _, _, _, _, _, _, jG⟩, rfl, xm_VE, rfl, rfl, saG, gaG, ggG, kcG, kpG⟩
  have XF : XCls K CF "ValueError" "ValueError.__new__" VE (.ref CL :: VE) := ⟨⟨_, _, _, _, _, _, _, _, _, _, _, _, _, _, jF⟩, rfl, xm_VE, rfl, rfl, saF, gaF, ggF, kcF, kpF⟩
  have XN : XCls K CN "LookupError" "LookupError.__new__" KEt KEt := ⟨⟨_, _, _, _, _, _, _, _, _, _, _, _, _, _, jN⟩, rfl, xm_KE, rfl, rfl, saN, gaN, ggN, kcN, kpN⟩
  have XS : XCls K CS "IndexError" "IndexError.__new__" IEt IEt := ⟨⟨_, _, _, _, _, _, _, _, _, _, _, _, _, _, jS⟩, rfl, xm_IE, rfl, rfl, saS, gaS, ggS, kcS, kpS⟩
  have XH : XCls K CH "ValueError" "ValueError.__new__" VE (.ref CL :: VE) := ⟨⟨_, _, _, _, _, _, _, _, _, _, _, _, _, _, jH⟩, rfl, xm_VE, rfl, rfl, saH, gaH, ggH, kcH, kpH⟩
  have XW : XCls K CW "ValueError" "ValueError.__new__" VE (.ref CL :: VE) := ⟨⟨_, _, _, _, _, _, _, _, _, _, _, _, _, _, jW⟩, rfl, xm_VE, rfl, rfl, saW, gaW, ggW, kcW, kpW⟩
  have XM : XCls K CM "ValueError" "ValueError.__new__" VE (.ref CL :: VE) := ⟨⟨_, _, _, _, _, _, _, _, _, _, _, _, _, _, jM⟩, rfl, xm_VE, rfl, rfl, saM, gaM, ggM, kcM, kpM⟩
  have T : Tx K mg CL CK CR CD CC CT CE CG CF CN CS CH CW CM := ⟨⟨hx1, hx2⟩, XL, PySem.W.mg_of X G gL, XK, PySem.W.mg_of X G gK, noK, XR, PySem.W.mg_of X G gR, noR, XD, PySem.W.mg_of X G gD, noD, XC, PySem.W.mg_of X G gC, noC, XT, PySem.W.mg_of X G gT, noT, XE, PySem.W.mg_of X G gE, noE, XG, PySem.W.mg_of X G gG, noG, XF, PySem.W.mg_of X G gF, noF, XN, PySem.W.mg_of X G gN, noN, XS, PySem.W.mg_of X G gS, noS, XH, PySem.W.mg_of X G gH, exH, XW, PySem.W.mg_of X G gW, exW, XM, PySem.W.mg_of X G gM, exM, nd, nl, lN, lS, PySem.W.mg_none_of X G z_isinstance, PySem.W.mg_none_of X G z_len, PySem.W.mg_none_of X G z_ValueError, PySem.W.mg_none_of X G z_KeyError, PySem.W.mg_none_of X G z_IndexError⟩
  have F1 := fun_mk (st := sDeal) l1 c1 k1
  have F2 := fun_mk (st := sDraw) l2 c2 k2
  have F3 := fun_mk (st := sPick) l3 c3 k3
  have F4 := fun_mk (st := sAny) l4 c4 k4
  have F5 := fun_mk (st := sSame) l5 c5 k5
  have F6 := fun_mk (st := sLaw) l6 c6 k6
  have b1 := F1.binds (ps := ["script", "base"]) fun _ _ _ _ _ _ us hl => match us, hl with | [_, _], _ => rfl
  have b2 := F2.binds (ps := ["deal", "wide"]) fun _ _ _ _ _ _ us hl => match us, hl with | [_, _], _ => rfl
  have b3 := F3.binds (ps := ["deal", "some"]) fun _ _ _ _ _ _ us hl => match us, hl with | [_, _], _ => rfl
  have b4 := F4.binds (ps := ["deal", "deep"]) fun _ _ _ _ _ _ us hl => match us, hl with | [_, _], _ => rfl
  have b5 := F5.binds (ps := ["made", "form", "thing"]) fun _ _ _ _ _ _ us hl => match us, hl with | [_, _, _], _ => rfl
  have FIK := fun_mk (st := sIK) lIK cIK kIK
  have bIK := FIK.binds (ps := ["self", "word"]) fun _ _ _ _ _ _ us hl => match us, hl with | [_, _], _ => rfl
  have FIR := fun_mk (st := sIR) lIR cIR kIR
  have bIR := FIR.binds (ps := ["self", "word"]) fun _ _ _ _ _ _ us hl => match us, hl with | [_, _], _ => rfl
  have FID := fun_mk (st := sID) lID cID kID
  have bID := FID.binds (ps := ["self", "word"]) fun _ _ _ _ _ _ us hl => match us, hl with | [_, _], _ => rfl
  have FIC := fun_mk (st := sIC) lIC cIC kIC
  have bIC := FIC.binds (ps := ["self", "word"]) fun _ _ _ _ _ _ us hl => match us, hl with | [_, _], _ => rfl
  have FIT := fun_mk (st := sIT) lIT cIT kIT
  have bIT := FIT.binds (ps := ["self", "at"]) fun _ _ _ _ _ _ us hl => match us, hl with | [_, _], _ => rfl
  have FIE := fun_mk (st := sIE) lIE cIE kIE
  have bIE := FIE.binds (ps := ["self", "at"]) fun _ _ _ _ _ _ us hl => match us, hl with | [_, _], _ => rfl
  have FIG := fun_mk (st := sIG) lIG cIG kIG
  have bIG := FIG.binds (ps := ["self", "at"]) fun _ _ _ _ _ _ us hl => match us, hl with | [_, _], _ => rfl
  have FIF := fun_mk (st := sIF) lIF cIF kIF
  have bIF := FIF.binds (ps := ["self", "at"]) fun _ _ _ _ _ _ us hl => match us, hl with | [_, _], _ => rfl
  have FIN := fun_mk (st := sIN) lIN cIN kIN
  have bIN := FIN.binds (ps := ["self", "name"]) fun _ _ _ _ _ _ us hl => match us, hl with | [_, _], _ => rfl
  have FIS := fun_mk (st := sIS) lIS cIS kIS
  have bIS := FIS.binds (ps := ["self", "at"]) fun _ _ _ _ _ _ us hl => match us, hl with | [_, _], _ => rfl
  refine ⟨PySem.W.fnOf "law" "law" (defArgs sLaw) (defBody sLaw) (defScope sLaw) .none kV6 dc6 pm6 an6 cd6 ct6, fun s v => .of_eq rfl, fun base _ _ => ?_⟩
  have IK : In l.prog w K mg base CK "word" := ⟨⟨fIK, _, aIK, tIK, ok_IK FIK XK PySem.F.store_ValueError, bIK, fun s self v => .of_eq rfl⟩⟩
  have IR : In l.prog w K mg base CR "word" := ⟨⟨fIR, _, aIR, tIR, ok_IR FIR XR PySem.F.store_ValueError, bIR, fun s self v => .of_eq rfl⟩⟩
  have ID : In l.prog w K mg base CD "word" := ⟨⟨fID, _, aID, tID, ok_ID FID XD PySem.F.store_ValueError, bID, fun s self v => .of_eq rfl⟩⟩
  have IC : In l.prog w K mg base CC "word" := ⟨⟨fIC, _, aIC, tIC, ok_IC FIC XC PySem.F.store_ValueError, bIC, fun s self v => .of_eq rfl⟩⟩
  have IT : In l.prog w K mg base CT "at" := ⟨⟨fIT, _, aIT, tIT, ok_IT FIT XT PySem.F.store_ValueError, bIT, fun s self v => .of_eq rfl⟩⟩
  have IE : In l.prog w K mg base CE "at" := ⟨⟨fIE, _, aIE, tIE, ok_IE FIE XE PySem.F.store_ValueError, bIE, fun s self v => .of_eq rfl⟩⟩
  have IG : In l.prog w K mg base CG "at" := ⟨⟨fIG, _, aIG, tIG, ok_IG FIG XG PySem.F.store_ValueError, bIG, fun s self v => .of_eq rfl⟩⟩
  have IF : In l.prog w K mg base CF "at" := ⟨⟨fIF, _, aIF, tIF, ok_IF FIF XF PySem.F.store_ValueError, bIF, fun s self v => .of_eq rfl⟩⟩
  have IN : In l.prog w K mg base CN "name" := ⟨⟨fIN, _, aIN, tIN, ok_IN FIN XN stKey, bIN, fun s self v => .of_eq rfl⟩⟩
  have IS : In l.prog w K mg base CS "at" := ⟨⟨fIS, _, aIS, tIS, ok_IS FIS XS PySem.F.store_IndexError, bIS, fun s self v => .of_eq rfl⟩⟩
  have D1 : FnOk l.prog w K mg base CX0 1 f1 _ ["script", "base"] (spDeal K) := ok_deal F1 (PySem.W.mg_none_of X G z_int) (PySem.W.mg_none_of X G z_abs)
  have D2 : FnOk l.prog w K mg base CX0 1 f2 _ ["deal", "wide"] spDraw := ok_draw F2 (PySem.W.mg_none_of X G z_int)
  have D3 : FnOk l.prog w K mg base CX0 2 f3 _ ["deal", "some"] (spPick K) := ok_pick F3 D2 b2 k2 (PySem.W.mg_of X G a2) (PySem.W.mg_none_of X G z_len)
  have D4 : FnOk l.prog w K mg base CX0 6 f4 _ ["deal", "deep"] (spAny 4) := any_all F4 D2 b2 k2 (PySem.W.mg_of X G a2) D3 b3 k3 (PySem.W.mg_of X G a3) b4 (PySem.W.mg_of X G a4) (PySem.W.mg_none_of X G z_range) (PySem.W.mg_none_of X G z_tuple) 4
  have D5 : FnOk l.prog w K mg base CX0 1 f5 _ ["made", "form", "thing"] (spSame K) := ok_same F5 (PySem.W.mg_none_of X G z_len)
  exact ok_law F6 T IK IR ID IC IT IE IG IF IN IS D1 b1 k1 (PySem.W.mg_of X G a1) D4 b4 k4 (PySem.W.mg_of X G a4) D5 b5 k5 (PySem.W.mg_of X G a5)
theorem walk {l : PySem.W.OpenLaw} {q : Program} {loose : List Str} {XP : (Str → Option Value) → Heap → Prop} {YP : World → Heap → Prop} {d : DefRec} {K : Params → PySem.W.Frag} (hn : l.most = some 63) (hdf : d.params.defaults = [])
    (hY : ∀ (w : World) (h : Heap), YP w h → (K w.params).In h)
    (F : ∀ (w : World) (mg : Str → Option Value) (fa : Addr) (h : Heap), (K w.params).In h → h.Ns mainGlobals mg → mg d.name = some (.ref fa) →
      ∃ fd : FuncData, (∀ (s : Shared) (u : Value), BindsTo s fd ⟨[u], []⟩ [("script", u)]) ∧ ∀ base : Heap, (K w.params).In base → base.Ns mainGlobals mg → FnOk l.prog w (K w.params) mg base CX0 7 fa fd ["script"] (spLaw (K w.params))) :
    PySem.W.WalkO q loose XP YP l.row.toRowW d [] (fun f vs => PySem.call f vs) :=
  L2.walk_of (n := 63) (k := 7) (x := "script") (CX := fun _ => CX0) (sp := fun w => spLaw (K w.params)) hn (by decide) hdf ⟨rfl, by decide, by decide⟩ hY F (fun _ _ a ns hl _ hS => ⟨a, ns, rfl, hS, hl, fun _ => rfl⟩) fun _ _ _ _ _ z => z
end My

set_option Elab.async false
open PySem PySem.W PyProof.Rows
set_option maxRecDepth 100000 in
set_option maxHeartbeats 0 in
theorem PySem.Challenge.cw_unfooled_k01_errors_and_what_they_keep_holds : PySem.Challenge.rw_unfooled_k01_errors_and_what_they_keep.Holds := by
  w_on; o_law; k_head; (case hw => w_witness2)
  k_fill
  refine My.walk (l := PySem.Challenge.rw_unfooled_k01_errors_and_what_they_keep) rfl rfl (fun w h Y => PySem.W.kIn_of Y) ?F
  case F =>
    intro w mg fa h KX G hmg
    refine' My.all_mk KX G hmg ?gL ?gK ?gR ?gD ?gC ?gT ?gE ?gG ?gF ?gN ?gS ?gH ?gW ?gM ?jL ?saL ?gaL ?ggL ?kcL ?kpL ?jK ?saK ?gaK ?ggK ?kcK ?kpK ?jR ?saR ?gaR ?ggR ?kcR ?kpR ?jD ?saD ?gaD ?ggD ?kcD ?kpD ?jC ?saC ?gaC ?ggC ?kcC ?kpC ?jT ?saT ?gaT ?ggT ?kcT ?kpT ?jE ?saE ?gaE ?ggE ?kcE ?kpE ?jG ?saG ?gaG ?ggG ?kcG ?kpG ?jF ?saF ?gaF ?ggF ?kcF ?kpF ?jN ?saN ?gaN ?ggN ?kcN ?kpN ?jS ?saS ?gaS ?ggS ?kcS ?kpS ?jH ?saH ?gaH ?ggH ?kcH ?kpH ?jW ?saW ?gaW ?ggW ?kcW ?kpW ?jM ?saM ?gaM ?ggM ?kcM ?kpM ?noK ?noR ?noD ?noC ?noT ?noE ?noG ?noF ?noN ?noS ?exH ?exW ?exM ?a1 ?l1 ?c1 ?k1 ?a2 ?l2 ?c2 ?k2 ?a3 ?l3 ?c3 ?k3 ?a4 ?l4 ?c4 ?k4 ?a5 ?l5 ?c5 ?k5 ?a6 ?l6 ?c6 ?k6 ?aIK ?tIK ?lIK ?cIK ?kIK ?aIR ?tIR ?lIR ?cIR ?kIR ?aID ?tID ?lID ?cID ?kID ?aIC ?tIC ?lIC ?cIC ?kIC ?aIT ?tIT ?lIT ?cIT ?kIT ?aIE ?tIE ?lIE ?cIE ?kIE ?aIG ?tIG ?lIG ?cIG ?kIG ?aIF ?tIF ?lIF ?cIF ?kIF ?aIN ?tIN ?lIN ?cIN ?kIN ?aIS ?tIS ?lIS ?cIS ?kIS ?z_int ?z_abs ?z_len ?z_range ?z_tuple ?z_isinstance ?z_ValueError ?z_KeyError ?z_IndexError ?hx1 ?hx2 ?nd ?nl ?lN ?lS
    (case gL => k_is)
    (case gK => k_is)
    (case gR => k_is)
    (case gD => k_is)
    (case gC => k_is)
    (case gT => k_is)
    (case gE => k_is)
    (case gG => k_is)
    (case gF => k_is)
    (case gN => k_is)
    (case gS => k_is)
    (case gH => k_is)
    (case gW => k_is)
    (case gM => k_is)
    (case jL => k_is)
    (case saL => k_is)
    (case gaL => k_is)
    (case ggL => k_is)
    (case kcL => k_is)
    (case kpL => k_is)
    (case jK => k_is)
    (case saK => k_is)
    (case gaK => k_is)
    (case ggK => k_is)
    (case kcK => k_is)
    (case kpK => k_is)
    (case jR => k_is)
    (case saR => k_is)
    (case gaR => k_is)
    (case ggR => k_is)
    (case kcR => k_is)
    (case kpR => k_is)
    (case jD => k_is)
    (case saD => k_is)
    (case gaD => k_is)
    (case ggD => k_is)
    (case kcD => k_is)
    (case kpD => k_is)
    (case jC => k_is)
    (case saC => k_is)
    (case gaC => k_is)
    (case ggC => k_is)
    (case kcC => k_is)
    (case kpC => k_is)
    (case jT => k_is)
    (case saT => k_is)
    (case gaT => k_is)
    (case ggT => k_is)
    (case kcT => k_is)
    (case kpT => k_is)
    (case jE => k_is)
    (case saE => k_is)
    (case gaE => k_is)
    (case ggE => k_is)
    (case kcE => k_is)
    (case kpE => k_is)
    (case jG => k_is)
    (case saG => k_is)
    (case gaG => k_is)
    (case ggG => k_is)
    (case kcG => k_is)
    (case kpG => k_is)
    (case jF => k_is)
    (case saF => k_is)
    (case gaF => k_is)
    (case ggF => k_is)
    (case kcF => k_is)
    (case kpF => k_is)
    (case jN => k_is)
    (case saN => k_is)
    (case gaN => k_is)
    (case ggN => k_is)
    (case kcN => k_is)
    (case kpN => k_is)
    (case jS => k_is)
    (case saS => k_is)
    (case gaS => k_is)
    (case ggS => k_is)
    (case kcS => k_is)
    (case kpS => k_is)
    (case jH => k_is)
    (case saH => k_is)
    (case gaH => k_is)
    (case ggH => k_is)
    (case kcH => k_is)
    (case kpH => k_is)
    (case jW => k_is)
    (case saW => k_is)
    (case gaW => k_is)
    (case ggW => k_is)
    (case kcW => k_is)
    (case kpW => k_is)
    (case jM => k_is)
    (case saM => k_is)
    (case gaM => k_is)
    (case ggM => k_is)
    (case kcM => k_is)
    (case kpM => k_is)
    (case noK => k_is)
    (case noR => k_is)
    (case noD => k_is)
    (case noC => k_is)
    (case noT => k_is)
    (case noE => k_is)
    (case noG => k_is)
    (case noF => k_is)
    (case noN => k_is)
    (case noS => k_is)
    (case exH => k_exc)
    (case exW => k_exc)
    (case exM => k_exc)
    (case a1 => k_is)
    (case l1 => k_is)
    (case c1 => k_is)
    (case k1 => k_is)
    (case a2 => k_is)
    (case l2 => k_is)
    (case c2 => k_is)
    (case k2 => k_is)
    (case a3 => k_is)
    (case l3 => k_is)
    (case c3 => k_is)
    (case k3 => k_is)
    (case a4 => k_is)
    (case l4 => k_is)
    (case c4 => k_is)
    (case k4 => k_is)
    (case a5 => k_is)
    (case l5 => k_is)
    (case c5 => k_is)
    (case k5 => k_is)
    (case a6 => k_is)
    (case l6 => k_is)
    (case c6 => k_is)
    (case k6 => k_is)
    (case aIK => k_is)
    (case tIK => k_is)
    (case lIK => k_is)
    (case cIK => k_is)
    (case kIK => k_is)
    (case aIR => k_is)
    (case tIR => k_is)
    (case lIR => k_is)
    (case cIR => k_is)
    (case kIR => k_is)
    (case aID => k_is)
    (case tID => k_is)
    (case lID => k_is)
    (case cID => k_is)
    (case kID => k_is)
    (case aIC => k_is)
    (case tIC => k_is)
    (case lIC => k_is)
    (case cIC => k_is)
    (case kIC => k_is)
    (case aIT => k_is)
    (case tIT => k_is)
    (case lIT => k_is)
    (case cIT => k_is)
    (case kIT => k_is)
    (case aIE => k_is)
    (case tIE => k_is)
    (case lIE => k_is)
    (case cIE => k_is)
    (case kIE => k_is)
    (case aIG => k_is)
    (case tIG => k_is)
    (case lIG => k_is)
    (case cIG => k_is)
    (case kIG => k_is)
    (case aIF => k_is)
    (case tIF => k_is)
    (case lIF => k_is)
    (case cIF => k_is)
    (case kIF => k_is)
    (case aIN => k_is)
    (case tIN => k_is)
    (case lIN => k_is)
    (case cIN => k_is)
    (case kIN => k_is)
    (case aIS => k_is)
    (case tIS => k_is)
    (case lIS => k_is)
    (case cIS => k_is)
    (case kIS => k_is)
    (case z_int => k_is)
    (case z_abs => k_is)
    (case z_len => k_is)
    (case z_range => k_is)
    (case z_tuple => k_is)
    (case z_isinstance => k_is)
    (case z_ValueError => k_is)
    (case z_KeyError => k_is)
    (case z_IndexError => k_is)
    (case hx1 => k_is)
    (case hx2 => k_is)
    (case nd => decide)
    (case nl => decide)
    (case lN => decide)
    (case lS => decide)
