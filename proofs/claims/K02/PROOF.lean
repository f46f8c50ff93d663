import PyProof.Rows.All
import Wide.All
import OpenK.AllK
import Wide.FinOn
import PyProof.StrOps2
import HandS.ForMost
import HandS.ForExc
import HandS.IsInst
import HandS.HotCalls
import HandS.ExcIs
import HandS.ExcCtx
import HandS.More
import HandS.Style
import HandS.Flow
import HandS.TupAny
import HandS.Text
import HandS.Steps
import KE.KSortedM
import PyProof.P3Eq
import PySem.Challenge.RW_ringpost_k02_who_sends
set_option Elab.async false
set_option linter.all false
set_option maxRecDepth 100000
set_option maxHeartbeats 4000000
namespace Rp
open PySem PySem.Spec PyProof.Rows L2 HotX

/-! a list walked while an exception is handled -/
section
variable {prog : Program} {w : World} {A : Around} {E : Value → Shared → Prop} {s : Shared}
theorem lst_over_hot {it l x1 : Addr} {i : Nat} {xs : Array Value} {Q : Option Value → Shared → Prop} (hot : HotAt A x1 s.heap) (hi : s.heap.IsListIter it l i) (hl : s.heap.IsList l xs) (hx : xs[i]? = none) (nx : x1 ≠ it)
    (hQ : ∀ h', Heap.ExtBut it s.heap h' → Q none { s with heap := h' }) : wpAny (model prog w) A (pyNext (.ref it)) Q E s := by
  obtain ⟨oi, gi, ci, di⟩ := id hi
  obtain ⟨ol, gl, cl, nl, dl⟩ := hl
  obtain ⟨hh, o1, vs1, g1, d1, c1⟩ := hot
  unfold pyNext
  refine wpAny_bind (wpAny_attempt (wpAny_callSpecial?_slot (name := Str.ofString "__next__") hi.typeIs slot_listiter_next (wpAny_call_entry slot_listiter_next hi.typeIs entry_listiter_next ?g0 (args_listiter_next _))))
  case g0 =>
    refine wpAny_bind (m := field (.ref it) 0) (wpAny_field gi di (x := .ref l) rfl ?_)
    show wpAny _ _ (if (Value.ref l == Value.none) = true then _ else _) _ _ s
    rw [if_neg (by exact Bool.false_ne_true : ¬ ((Value.ref l == Value.none) = true))]
    refine wpAny_bind (m := field (.ref it) 1) (wpAny_field gi di (x := .int i 0) rfl ?_)
    refine wpAny_bind (m := seqItems? (.ref l)) (wpAny_seqItems gl dl ?_)
    simp only [Int.toNat_natCast, hx]
    refine wpAny_bind (wpAny_rule (wpAny_bind (wpAny_setField gi di (by simp) ?_)))
    refine wpAny_bind (m := newExc (.type "StopIteration") []) ?_
    simp only [newExc, newTuple]
    refine wpAny_bind (wpAny_newObj_type ?_ (by size_fits))
    refine wpAny_bind (m := firstArgMember _ _) (wpAny_of_eq (a := Value.none) (by first | rfl | (simp only [firstArgMember]; rfl)) ?_)
    refine wpAny_newObj_type ?_ (by size_fits)
    have k1 : ((((s.heap.update it (Obj.mapFields (·.setIfInBounds 0 Value.none)))).push { cls := .type "tuple", data := .seq ([] : List Value).toArray })).get? x1 = some o1 := by
      refine Heap.get?_push_of_some _ ?_
      rw [Heap.get?_update_other _ _ (Ne.symm nx)]
      exact g1
    refine raiseNew_hot ⟨hh, o1, vs1, Heap.get?_push_of_some _ k1, d1, c1⟩ (Nat.ne_of_lt (Heap.lt_size k1)) (Heap.get?_push_size _ rfl) rfl (by first | (simp; done) | (simp; omega) | (simp only [Array.size_append]; simp; omega)) ?_
    refine wpAny_bind (wpAny_isInstance (T := "StopIteration") (b := true) ⟨_, Heap.get?_update_self _ (Heap.get?_push_size _ rfl) rfl, rfl⟩ isSubtype_stop ?_)
    refine wpAny_pure (hQ _ ?_)
    intro b o hb e
    have k2 : ((((s.heap.update it (Obj.mapFields (·.setIfInBounds 0 Value.none)))).push { cls := .type "tuple", data := .seq ([] : List Value).toArray })).get? b = some o := by
      refine Heap.get?_push_of_some _ ?_
      rw [Heap.get?_update_other _ _ (Ne.symm hb)]
      exact e
    rw [Heap.get?_update_other _ _ (Nat.ne_of_gt (Heap.lt_size k2))]
    exact Heap.get?_push_of_some _ k2
theorem turn_lstH {P : Program} {w : World} {K : PySem.W.Frag} {tg : Expr} (a it : Addr) : L2H.TurnH P w K tg (Itl K a) [it] it (fun i h => h.IsListIter it a i) where
  mem := by simp
  obj := by
    intro i h st b hb
    obtain rfl : b = it := by simpa using hb
    obtain ⟨o, e, c, d⟩ := st
    refine ⟨o, e, fun v z => ?_⟩
    rw [d] at z
    cases z
  keep := fun i h h' st k => st.at fun o e => k it (by simp) o e
  item := by
    rintro X rfl rfl rfl hc i pins s σ H E I hf st ⟨xs, x, hq, hx⟩
    obtain ⟨its, rv, p, hz⟩ := I.list hq
    obtain ⟨u, hu, ru⟩ := rv.get hx
    obtain ⟨f0, f1, f2, f3, f4, f5⟩ := hf it (by simp)
    refine wpAny_pyNext_list_item st p.isList (x := u) (by simpa using hu) fun h' t' sb => ?_
    have I1 : Inv X pins σ H { s with heap := h' } := I.turned (t' := s.toks) (fun b o hb e => (sb.2 b hb).trans e) f0 f1 f3 f4 f5
    obtain ⟨o, e, c, d⟩ := id t'
    refine ⟨u, rfl, go_of (s := { s with heap := h' }) e c d (by decide) ⟨x, H, I1, ru, ⟨rfl, fun ys hy => ?_⟩, t', fun b hb => (hf b hb).1⟩⟩
    rw [I.list_inj hy hq]
    exact hx
  done := by
    rintro X rfl rfl rfl hc i pins s σ H E I hf st ⟨xs, hq, hx⟩
    obtain ⟨its, rv, p, hz⟩ := I.list hq
    obtain ⟨f0, f1, f2, f3, f4, f5⟩ := hf it (by simp)
    have hl := rv.length
    obtain ⟨q, ⟨hh, v1, e1, c1⟩, hq1⟩ := hc
    have g1 := I.pin q (List.mem_append_left _ hq1)
    refine lst_over_hot (x1 := q.1) ⟨hh, q.2, v1, g1.1, e1, c1⟩ st p.isList (by simp; omega) (f5 q (List.mem_append_left _ hq1)) fun h' eb => ⟨rfl, ?_⟩
    exact I.turned (t' := s.toks) (fun b o hb e => eb b o hb e) f0 f1 f3 f4 f5
  self := fun _ _ _ _ _ st h => wpAny_pyIter_listiter st h
end
theorem pi_lstH {X : Cx} {tg l : Expr} {tl : TE} (hl : PE X l tl) : L2H.PIH X tg l (iList X.K tl) := by
  refine ⟨fun pins s σ H R I h => thn (hl.run pins s σ H _ I h) fun v s1 ⟨x, H1, I1, r1, q1⟩ => ?_⟩
  obtain ⟨a, rfl, ⟨xs, hq⟩, q⟩ := q1
  cases r1
  obtain ⟨its, rv, p, hz⟩ := I1.list hq
  refine wpAny_pyIter_list p.isList ⟨s1.heap.objs.size, [s1.heap.objs.size], _, _, H1, rfl, I1.kept (t' := s1.toks) fun b o e => Heap.get?_push_of_some _ e, turn_lstH a _, ?_, fun b hb => ?_, q⟩
  · exact ⟨_, Heap.get?_push_size _ rfl, rfl, rfl⟩
  · obtain rfl : b = s1.heap.objs.size := by simpa using hb
    exact I1.fpOk (Nat.le_refl _) (I1.hok.fresh (Nat.le_refl _))

/-! a def of the text, called while the exception p is handled -/
structure FnAt (p : Addr × Obj) (P : Program) (w : World) (K : PySem.W.Frag) (mg : Str → Option Value) (base : Heap) (k : Nat) (f : Addr) (fd : FuncData) (ps : List Str) (sp : Sp) : Prop where
  len : ∀ vs H Q E, sp vs H Q E → vs.length = ps.length
  run : ∀ (A : Around) (outer : List Env) (s : Shared) (H : Hp) (args : Args) (us : List Value) (vs : List V) (Q : VK) (E : XK), L2H.RoomH k A → L2H.Hot1 A p → L2H.PinOk outer H s p → Env0 P w K mg base A outer s H →
    BindsTo s fd args (ps.zip us) → Vals vs us → sp vs H Q E → codeAny (model P w) A (.call (.ref f) args) (CR CX0 outer P w H s Q E) s
theorem fn_at {p : Addr × Obj} {P : Program} {w : World} {K : PySem.W.Frag} {mg : Str → Option Value} {base : Heap} {k : Nat} {f : Addr} {nm qual : Str} {pa : Arguments} {bd : List Stmt} {sc : Scope} {dV kV doc pm cdv ct oc : Value} {an od : Option Addr}
    {osl : Array (Option Value)} {N ps : List Str} {sp : Sp} (lk : K.lookup f = some ⟨oc, od, .func (PySem.W.fnOf nm qual pa bd sc dV kV doc pm an cdv ct), osl⟩) (hcd : PySem.W.codeIn K cdv qual = true) (S : FnScope N ps sc)
    (len : ∀ vs H Q E, sp vs H Q E → vs.length = ps.length)
    (hb : ∀ (A : Around) (outer : List Env) (s : Shared) (H : Hp) (vs : List V) (Q : VK) (E : XK), L2H.Hot1 A p → L2H.RoomH k (A.deeper (envOfC qual sc s.heap.objs.size f cdv)) → sp vs H Q E →
      ∃ t, PSs (L2H.cxH CX0 P w K mg base N qual sc f cdv A outer s H E p).nox bd t ∧ t { nx := fun _ H' => Q .non H', rt := Q } (L2.start N vs) H) :
    FnAt p P w K mg base (k + 1) f (PySem.W.fnOf nm qual pa bd sc dV kV doc pm an cdv ct) ps sp := by
  refine ⟨len, fun A outer s H args us vs Q E hr hot hpin e0 hbd r hsp => ?_⟩
  have hl := len _ _ _ _ hsp
  have kp : ∀ b o, base.get? b = some o → s.heap.get? b = some o := fun b o e => (e0.bs b o e).1
  have KX : K.In s.heap := e0.mod.kin.keeps kp
  have lim : s.heap.NoLimit := e0.mod.nolimit.keeps kp
  have hkind : ∀ y ∈ ps.zip us, sc.names.lookup y.1 = some .local ∨ (sc.names.lookup y.1 = some .cell ∧ ((cellsFrom (s.heap.objs.size + 1) sc.names []).lookup y.1).isSome = true) := by
    rintro ⟨n, v⟩ hy
    rcases S.par n (List.of_mem_zip hy).1 with q | q
    · exact Or.inl q
    · exact Or.inr ⟨q, PySem.W.cellsFrom_some _ _ _ (Or.inl q)⟩
  refine codeAny_call_function hr.depth (KX _ _ lk) rfl S.co S.gen rfl (PySem.W.codeRec_of KX hcd) (hbd _ _ _ _ (wpAny_newFunctionEnv_cells S.kind hkind ?_))
  rintro env rfl s1 x
  refine ⟨lim.keeps x.toInCall.keep, codeAny_func ?_⟩
  obtain ⟨t, ht, hq⟩ := hb A outer s H vs Q E hot (hr.deeper _) hsp
  have I : Inv (L2H.cxH CX0 P w K mg base N qual sc f cdv A outer s H E p) [] (L2.start N vs) H s1 := L2H.inv_startH S hpin e0 hl r x
  have fin : ∀ {σ' : L2.St} {H' : Hp} {s' : Shared} {v : V} {u : Value}, Inv (L2H.cxH CX0 P w K mg base N qual sc f cdv A outer s H E p) [] σ' H' s' → RelV v u → Q v H' → CE outer P w H s Q u s' :=
    fun {σ' H' s' v u} J rv q => ⟨v, H', J.os, J.bare, J.base, J.hok, rv, q⟩
  refine wpAny_mono (ht.nox.run [] s1 (L2.start N vs) H _ I hq) (fun fl s' hs => ?_) fun e s' hs => hs
  cases fl with
  | ret u =>
    obtain ⟨v, σ', H', J, rv, q⟩ := hs
    exact fin J rv q
  | next =>
    obtain ⟨σ', H', J, q⟩ := hs
    exact fin (v := V.non) (u := Value.none) J rfl q
  | brk => exact hs.elim fun _ ⟨_, _, q⟩ => q.elim
  | cont => exact hs.elim fun _ ⟨_, _, q⟩ => q.elim
section
variable {X : Cx} {p : Addr × Obj} {k : Nat} {f : Addr} {fd : FuncData} {ps : List Str} {sp : Sp} {x : Str} {q pos : Pos} {e : Expr} {es : List Expr} {t : TA}
theorem pe_callAt (F : FnAt p X.prog X.w X.K X.mg X.base k f fd ps sp) (hr : L2H.RoomH k X.A) (hp : p ∈ X.pn) (hot : L2H.Hot1 X.A p) (hg : Gl X x) (hm : X.mg x = some (.ref f)) (hk : PySem.W.keepIn X.K (.ref f) = true) (hb : Binds X.K fd ps [])
    (ha : PA X (e :: es) t) (hdb : (x == ("__debug__" : Str)) = false := by decide) (he : starEach (e :: es) X.env = (false, eval e X.env) :: starEach es X.env := by rfl) (hpl : (backTo pos (starEach es X.env)).any (·.1) = false := by rfl) :
    PE X (.Call (.Name x q) (e :: es) [] pos) (tCall sp [] E0 t) := by
  refine ⟨fun pins s σ H Q I h => wpAny_Call_Name_kw (ld_glob I hg hm ?_ hdb)⟩
  refine PySem.W.callWith_K (h₀ := X.base) I.ok.mod.kin hk (thn (ha.run pos pins s σ H _ I h) fun us s1 ⟨vs, H1, I1, r, hsp⟩ => ⟨I1.kIn, ?_⟩) he hpl
  have hsp : sp vs H1 Q E0 := by
    have z : sp (vs ++ []) H1 Q E0 := hsp
    rw [List.append_nil] at z
    exact z
  have hl : us.length = ps.length := r.length ▸ F.len _ _ _ _ hsp
  have b := hb s1 us I1.kIn (by rw [List.append_nil]; exact hl)
  rw [List.append_nil] at b
  have g := I1.pin p (List.mem_append_left _ hp)
  have hpin : L2H.PinOk X.stack H1 s1 p := ⟨g.1, g.2.1, fun hm => (List.mem_cons.mp (I1.stkSub p.1 hm)).elim g.2.2.1 g.2.2.2.1, g.2.2.2.2⟩
  refine wpAny_call (codeAny_mono (F.run X.A X.stack s1 H1 ⟨us, []⟩ us vs Q E0 hr hot hpin I1.env0 b r hsp) fun r s' hq => ?_)
  cases r with
  | error e => exact hq.elim
  | ok fl =>
    cases fl with
    | ret u => exact I1.after hq
    | next => exact hq.elim
    | brk => exact hq.elim
    | cont => exact hq.elim
end
/-- isinstance of the exception that is pinned -/
theorem call_isP {X : Cx} {a D : Addr} {oe : Obj} (C : ExcC X.K D) (hz : Zc (.ref D) none oe) (hf : ∃ vs, oe.data = .fields vs) (hp : (a, oe) ∈ X.pn) : CallR X (.builtin "isinstance") (rIsE X.K D a) := by
  rintro pins s σ H xs us Q I r ⟨c, cv, b, rfl, hcv, e, q⟩
  obtain ⟨u1, u2, rfl, rx, rt⟩ := vals2 r
  cases rx
  have ec := hcv _ rt
  subst ec
  have hget := (I.pin (a, oe) (List.mem_append_left _ hp)).1
  obtain ⟨vs, hv⟩ := hf
  have J : PySem.W.InstAt s.heap a oe D none := by
    obtain ⟨oc, od, oda, osl⟩ := oe
    obtain ⟨h1, h2⟩ := hz
    dsimp only at h1 h2 hv
    subst h1 h2 hv
    exact ⟨hget, rfl, rfl, trivial⟩
  refine PySem.W.kia_one (PySem.W.handS_kitx_exc C.hg C.hk C.hs C.hd C.ha C.hn C.ht C.hm) I.kIn J e (by intro z; cases z) fun tk => ?_
  exact ⟨.bl b, H, I.kept (t' := tk) fun _ _ z => z, rfl, q⟩
end Rp

namespace Rp
open PySem PySem.Spec PyProof.Rows L2

/-! attributes by name -/
theorem lk_hit {k : Str} {v : V} {r : List (Str × V)} : List.lookup k ((k, v) :: r) = some v := by
  rw [List.lookup_cons]
  simp
theorem lk_miss {k k' : Str} {v : V} {r : List (Str × V)} (h : (k == k') = false) : List.lookup k ((k', v) :: r) = List.lookup k r := by
  rw [List.lookup_cons, h]
theorem pt_nil {k : Str} {y : V} : putF k y [] = [(k, y)] := rfl
theorem pt_hit {k : Str} {v y : V} {r : List (Str × V)} : putF k y ((k, v) :: r) = (k, y) :: r := by
  show (if k = k then _ else _) = _
  rw [if_pos rfl]
theorem pt_miss {k k' : Str} {v y : V} {r : List (Str × V)} (h : (k' == k) = false) : putF k y ((k', v) :: r) = (k', v) :: putF k y r := by
  show (if k' = k then _ else _) = _
  rw [if_neg (by simpa using h)]

/-! readings by name -/
def rCatS : R2 := fun x y H Q => ∃ i j, x = .str i ∧ y = .str j ∧ i.length + j.length ≤ sizeLine ∧ Q (.str (i ++ j)) H
def rIT : R2 := fun x y H Q => ∃ a b, x = .ty a ∧ y = .ty b ∧ Q (.bl (decide (a = b))) H
def rLen (K : PySem.W.Frag) : List V → Hp → VK → Prop := fun xs H Q => ∃ x n, xs = [x] ∧ LenV K x H n ∧ Q (.int n) H
def rInt1 : List V → Hp → VK → Prop := fun xs H Q => (∃ i, xs = [.int i] ∧ Q (.int i) H) ∨ ∃ k, xs = [.bl k] ∧ Q (.int (if k then 1 else 0)) H
def rStrI : List V → Hp → VK → Prop := fun xs H Q => ∃ i, xs = [.int i] ∧ i.natAbs.log2 < 1920 ∧ Q (.str (toString i)) H
def rMax2 : List V → Hp → VK → Prop := fun xs H Q => ∃ i j, xs = [.int i, .int j] ∧ Q (.int (if j > i then j else i)) H
def rMin2 : List V → Hp → VK → Prop := fun xs H Q => ∃ i j, xs = [.int i, .int j] ∧ Q (.int (if j < i then j else i)) H
def rListOf (K : PySem.W.Frag) : List V → Hp → VK → Prop := fun xs H Q => ∃ p ys, xs = [.ref p] ∧ (SqL K H p ys ∨ SqT K H p ys) ∧ ∀ l, H l = none → Q (.ref l) (upd H l (.lst ys))
def rTupOf (K : PySem.W.Frag) : List V → Hp → VK → Prop := fun xs H Q => ∃ p ys, xs = [.ref p] ∧ ((SqL K H p ys ∧ ∀ l, H l = none → Q (.ref l) (upd H l (.tup ys))) ∨ (SqT K H p ys ∧ Q (.ref p) H))
def tRaiseC (C : Addr) (E : XK) : TS := fun _ _ H => E (.ref C) none H
theorem call_lenA {X : Cx} : CallR X (.builtin "len") (rLen X.K) := call_len

/-! a text, so many times -/
def strRep (z : Str) (n : Int) : Str := if n < 1 then Str.empty else if (n == 1 || z.length == 0) = true then z else ⟨(List.replicate n.toNat z.cps).foldl (· ++ ·) #[]⟩
theorem strRep_zero {z : Str} : strRep z 0 = Str.empty := rfl
theorem strRep_one {z : Str} : strRep z 1 = z := rfl
def rStrRep : R2 := fun x y H Q => ∃ z n, x = .str z ∧ y = .int n ∧ 0 ≤ n ∧ n ≤ 4096 ∧ z.length ≤ 1024 ∧ Q (.str (strRep z n)) H
theorem fold_size (n : Nat) (c : Array Nat) : ∀ b : Array Nat, ((List.replicate n c).foldl (· ++ ·) b).size = b.size + n * c.size := by
  induction n with
  | zero => intro b; simp
  | succ n ih =>
    intro b
    rw [List.replicate_succ, List.foldl_cons, ih, Array.size_append, Nat.succ_mul]
    omega
theorem op_strRep {X : Cx} : OpR X (binaryOp .Mult) rStrRep := by
  rintro pins s σ H x y v u Q I rx ry ⟨z, n, rfl, rfl, h0, h1, hz, q⟩
  obtain ⟨t, rfl⟩ := rx
  obtain ⟨t', rfl⟩ := ry
  have hs : sizeLine = 16777216 := sizeLine_eq
  have hm : z.length * n.toNat ≤ 1024 * 4096 := Nat.mul_le_mul hz (by omega)
  refine PySem.P.mul_str (by simp; omega) (fun h2 h3 h4 => ?_) (fun h2 h3 => ?_) ?_
  · have h5 : (2 ^ 63 - 1) / n ≥ 1024 := by
      refine (Int.le_ediv_iff_mul_le (by omega)).mpr ?_
      omega
    omega
  · unfold Builtin.Str.tooLong
    simp
    omega
  · unfold strRep at q
    by_cases a : n < 1
    · rw [if_pos a] at q ⊢
      exact ⟨by decide, .str _, H, I.tok _, ⟨_, rfl⟩, q⟩
    · rw [if_neg a] at q ⊢
      by_cases b : (n == 1 || z.length == 0) = true
      · rw [if_pos b] at q ⊢
        exact ⟨.str _, H, I, ⟨_, rfl⟩, q⟩
      · rw [if_neg b] at q ⊢
        refine ⟨?_, .str _, H, I.tok _, ⟨_, rfl⟩, q⟩
        show ((List.replicate n.toNat z.cps).foldl (· ++ ·) #[]).size ≤ sizeLine
        rw [fold_size]
        have e : z.cps.size = z.length := rfl
        have f : n.toNat * z.cps.size = z.length * n.toNat := by rw [e, Nat.mul_comm]
        simp only [Array.size_empty]
        omega

/-! comparisons in a chain -/
structure PCh (X : Cx) (ops : List CmpOp) (rs : List Expr) (t : V → TE) : Prop where
  val : ∀ (pos : Pos) (pins : List (Addr × Obj)) (s : Shared) (σ : L2.St) (H : Hp) (x : V) (v : Value) (Q : VK), Inv X pins σ H s → RelV x v → t x σ H Q → wpAny (model X.prog X.w) X.A (compareChain pos v ops (evalEach rs X.env)) (EP X pins σ Q) X.xe s
  tst : ∀ (pos : Pos) (pins : List (Addr × Obj)) (s : Shared) (σ : L2.St) (H : Hp) (x : V) (v : Value) (Q : Bool → Hp → Prop), Inv X pins σ H s → RelV x v → t x σ H (fun z H' => ∃ k, z = .bl k ∧ Q k H') → wpAny (model X.prog X.w) X.A (testChain pos v ops (evalEach rs X.env)) (TP X pins σ Q) X.xe s
def cLast (r : R2) (tb : TE) : V → TE := fun x σ H Q => tb σ H fun y H1 => r x y H1 Q
def cCons (r : R2) (tb : TE) (u : V → TE) : V → TE := fun x σ H Q => tb σ H fun y H1 => r x y H1 fun z H2 => ∃ k, z = .bl k ∧ if k = true then u y σ H2 Q else Q (.bl false) H2
section
variable {X : Cx} {op op' : CmpOp} {ops : List CmpOp} {a b b' : Expr} {rs : List Expr} {r : R2} {ta tb : TE} {u : V → TE} {pos : Pos}
theorem pch_last (ho : OpR X (compareOp op) r) (hb : PE X b tb) : PCh X [op] [b] (cLast r tb) where
  val := fun pos pins s σ H x v Q I rx h => chain_last (thn (hb.run pins s σ H _ I h) fun w s1 ⟨y, H1, I1, ry, q⟩ => ho pins s1 σ H1 x y v w Q I1 rx ry q)
  tst := fun pos pins s σ H x v Q I rx h => test_last (thn (hb.run pins s σ H _ I h) fun w s1 ⟨y, H1, I1, ry, q⟩ => thn (ho pins s1 σ H1 x y v w _ I1 rx ry q) fun d s2 ⟨z, H2, I2, rz, k, ez, q2⟩ => by
    subst ez
    cases rz
    exact wpAny_truthy_bool ⟨H2, I2, q2⟩)
theorem pch_cons (ho : OpR X (compareOp op) r) (hb : PE X b tb) (hr : PCh X (op' :: ops) (b' :: rs) u) : PCh X (op :: op' :: ops) (b :: b' :: rs) (cCons r tb u) where
  val := fun pos pins s σ H x v Q I rx h => chain_link (thn (hb.run pins s σ H _ I h) fun w s1 ⟨y, H1, I1, ry, q⟩ => thn (ho pins s1 σ H1 x y v w _ I1 rx ry q) fun d s2 ⟨z, H2, I2, rz, k, ez, q2⟩ => by
    subst ez
    cases rz
    refine wpAny_truthy_bool ?_
    cases k with
    | false => exact ite_ff ⟨.bl false, H2, I2, rfl, q2⟩
    | true => exact ite_tt (hr.val pos pins s2 σ H2 y w Q I2 ry q2))
  tst := fun pos pins s σ H x v Q I rx h => test_link (thn (hb.run pins s σ H _ I h) fun w s1 ⟨y, H1, I1, ry, q⟩ => thn (ho pins s1 σ H1 x y v w _ I1 rx ry q) fun d s2 ⟨z, H2, I2, rz, k, ez, q2⟩ => by
    subst ez
    cases rz
    refine wpAny_truthy_bool ?_
    cases k with
    | false =>
      obtain ⟨k', e', q'⟩ := q2
      cases e'
      exact ite_ff ⟨H2, I2, q'⟩
    | true => exact ite_tt (hr.tst pos pins s2 σ H2 y w Q I2 ry q2))
def tChn (ta : TE) (u : V → TE) : TE := fun σ H Q => ta σ H fun x H1 => u x σ H1 Q
theorem pe_chn (ha : PE X a ta) (hr : PCh X (op :: op' :: ops) (b :: b' :: rs) u) (hm : lastMarks (op :: op' :: ops) (b :: b' :: rs) = false := by with_unfolding_all rfl) : PE X (.Compare a (op :: op' :: ops) (b :: b' :: rs) pos) (tChn ta u) :=
  ⟨fun pins s σ H Q I h => Compare_chain (thn (ha.run pins s σ H _ I h) fun v s1 ⟨x, H1, I1, rx, q⟩ => hr.val pos pins s1 σ H1 x v Q I1 rx q) hm⟩
theorem pt_chn (ha : PE X a ta) (hr : PCh X (op :: op' :: ops) (b :: b' :: rs) u) (hm : lastMarks (op :: op' :: ops) (b :: b' :: rs) = false := by with_unfolding_all rfl) : PT X (.Compare a (op :: op' :: ops) (b :: b' :: rs) pos) (tTest (tChn ta u)) :=
  ⟨fun pins s σ H Q I h => isTrue_chain (thn (ha.run pins s σ H _ I h) fun v s1 ⟨x, H1, I1, rx, q⟩ => hr.tst pos pins s1 σ H1 x v Q I1 rx q) hm⟩
end

/-! o.m(e, ..) of a def that may raise; the wish of what is raised by the caller's slots -/
def tMethS (C : Addr) (m : Str) (sp : Sp) (E : L2.St → XK) (ta : TE) (t : TA) : TE := fun σ H Q => ta σ H fun x H1 => ∃ a dx fs, x = .ref a ∧ H1 a = some (.ins C dx fs) ∧ fs.lookup m = none ∧ t σ H1 fun vs H2 => sp (x :: vs) H2 Q (E σ)
section
variable {X : Cx} {CX : CXT} {k : Nat} {C f : Addr} {fd : FuncData} {ps : List Str} {m : Str} {sp : Sp} {E : L2.St → XK} {o e : Expr} {es : List Expr} {ta : TE} {t : TA} {apos pos : Pos} {pl : Sem Bool}
theorem pe_methS (he : PE X o ta) (c : Cls X.K C) (hm : Meth X.K C m f) (F : FnOk X.prog X.w X.K X.mg X.base CX k f fd ps sp) (hr : Room k X.A) (hb : Binds X.K fd ps []) (hx : ∀ σ, PassesAt CX X σ (E σ)) (ha : PA X (e :: es) t)
    (hst : starEach (e :: es) X.env = (false, eval e X.env) :: starEach es X.env := by rfl) (hpl : (backTo pos (starEach es X.env)).any (·.1) = false := by rfl)
    (ht : eval (.Call (.Attribute o m apos) (e :: es) [] pos) X.env = (do let ov ← eval o X.env; standAt apos.atName; let (f, first) ← holding [ov] (getMethod ov m pl); callWith pos f first (backTo pos (starEach (e :: es) X.env)) (backToKw pos (keywordEach [] X.env))) := by rfl) :
    PE X (.Call (.Attribute o m apos) (e :: es) [] pos) (tMethS C m sp E ta t) := by
  refine ⟨fun pins s σ H Q I h => PySem.W.methodCall_KW (pl := pl) (thn (he.run pins s σ H _ I h) fun u s1 ⟨x, H1, I1, rx, b, dx, fs, ex, eb, l, q⟩ => ?_) ht⟩
  subst ex
  obtain rfl : u = Value.ref b := rx
  refine getmeth_ok I1 eb c hm l (PySem.W.callWith_K (first := [.ref b]) (h₀ := X.base) I.ok.mod.kin hm.kp (thn (ha.run pos pins s1 σ H1 _ I1 q) fun us s2 ⟨vs, H2, I2, r, q2⟩ => ⟨I2.kIn, ?_⟩) hst hpl)
  exact run_fnS (us := .ref b :: us) (vs := .ref b :: vs) F hr hb (hx σ) I2 (.cons rfl r) q2
end

/-! a def that may raise, its context None -/
theorem okN {P : Program} {w : World} {K : PySem.W.Frag} {mg : Str → Option Value} {base : Heap} {x qual : Str} {st : Stmt} {f : Addr} {fd : FuncData} {N ps : List Str} {k : Nat} {sp : Sp} (F : Fun K x qual st f fd) (S : FnScope N ps (defScope st)) (len : ∀ vs H Q E, sp vs H Q E → vs.length = ps.length)
    (hb : ∀ (cdv : Value) (A : Around) (outer : List Env) (s : Shared) (H : Hp) (vs : List V) (Q : VK) (E : XK), Room k (A.deeper (envOfC qual (defScope st) s.heap.objs.size f cdv)) → sp vs H Q E →
      ∃ t, PSs (cxOf (L2N.CX P w) P w K mg base N qual (defScope st) f cdv A outer s H E) (defBody st) t ∧ t { nx := fun _ H' => Q .non H', rt := Q } (start N vs) H) : FnOk P w K mg base (L2N.CX P w) (k + 1) f fd ps sp := by
  obtain ⟨oc, od, kV, doc, pm, an, cdv, ct, osl, rfl, lk, hcd⟩ := F.ex
  exact fn_of lk hcd S len fun A outer s H vs Q E hr hsp => hb cdv A outer s H vs Q E hr hsp
theorem okAt {p : Addr × Obj} {P : Program} {w : World} {K : PySem.W.Frag} {mg : Str → Option Value} {base : Heap} {x qual : Str} {st : Stmt} {f : Addr} {fd : FuncData} {N ps : List Str} {k : Nat} {sp : Sp} (F : Fun K x qual st f fd) (S : FnScope N ps (defScope st)) (len : ∀ vs H Q E, sp vs H Q E → vs.length = ps.length)
    (hb : ∀ (cdv : Value) (A : Around) (outer : List Env) (s : Shared) (H : Hp) (vs : List V) (Q : VK) (E : XK), L2H.Hot1 A p → L2H.RoomH k (A.deeper (envOfC qual (defScope st) s.heap.objs.size f cdv)) → sp vs H Q E →
      ∃ t, PSs (L2H.cxH CX0 P w K mg base N qual (defScope st) f cdv A outer s H E p).nox (defBody st) t ∧ t { nx := fun _ H' => Q .non H', rt := Q } (start N vs) H) : FnAt p P w K mg base (k + 1) f fd ps sp := by
  obtain ⟨oc, od, kV, doc, pm, an, cdv, ct, osl, rfl, lk, hcd⟩ := F.ex
  exact fn_at lk hcd S len fun A outer s H vs Q E h1 hr hsp => hb cdv A outer s H vs Q E h1 hr hsp
theorem takes0N {X : Cx} : L2N.Takes X (fun _ _ _ _ => False) := fun _ _ x => by
  obtain ⟨_, _, _, _, _, _, _, _, _, _, _, _, _, _, _, _, z⟩ := x
  exact z.elim
/-- the exception that a suite holds, hot -/
theorem hot_of {X : Cx} {a : Addr} {oe : Obj} {pn : List (Addr × Obj)} {cls : Value} {d : Option Addr} (hz : L2N.Zn cls d oe) (hf : ∃ vs, oe.data = .fields vs) : L2H.Hot1 (X.suite a pn).A (a, oe) := by
  obtain ⟨vs, e⟩ := hf
  exact ⟨rfl, vs, e, hz.2.2 vs e⟩
end Rp

namespace Rp
open PySem PySem.Spec PyProof.Rows L2

/-! readings over a lower heap: F holds what is known, H is any heap above it -/
section
variable {K : PySem.W.Frag} {σ : L2.St} {H F : Hp} {Q : VK} {v x y z : V} {ta tb te tc : TE} {r : R2} {D : Ends} {i j : Int} {n : Nat} {k : Bool} {p : Addr} {xs : List V} {tr t u : TS}
theorem g_var (h : σ[n]? = some (some v)) (q : Q v H) : tVar n σ H Q := ⟨v, h, q⟩
theorem g_c (q : Q v H) : tC v σ H Q := q
theorem g_op (q : ta σ H fun x H1 => tb σ H1 fun y H2 => r x y H2 Q) : tOp r ta tb σ H Q := q
theorem g_un {f : V → Hp → VK → Prop} (q : ta σ H fun x H1 => f x H1 Q) : tUn f ta σ H Q := q
theorem g_I0 {g : Int → Int → V} (q : Q (g i j) H) : rI0 g (.int i) (.int j) H Q := ⟨i, j, rfl, rfl, q⟩
theorem g_I {C : Int → Int → Prop} {g : Int → Int → V} (c : C i j) (q : Q (g i j) H) : rI C g (.int i) (.int j) H Q := ⟨i, j, rfl, rfl, c, q⟩
theorem g_U {g : Int → V} (q : Q (g i) H) : rU g (.int i) H Q := ⟨i, rfl, q⟩
theorem g_eqI (q : Q (.bl (decide (i = j))) H) : rEq (.int i) (.int j) H Q := by
  refine ⟨rfl, ?_⟩
  have e : decide (V.int i = V.int j) = decide (i = j) := by simp
  rw [e]
  exact q
theorem g_neI (q : Q (.bl (!decide (i = j))) H) : rNe (.int i) (.int j) H Q := by
  refine ⟨rfl, ?_⟩
  have e : decide (V.int i = V.int j) = decide (i = j) := by simp
  rw [e]
  exact q
theorem g_eqB {b c : Bool} (q : Q (.bl (decide (b = c))) H) : rEq (.bl b) (.bl c) H Q := by
  refine ⟨rfl, ?_⟩
  have e : decide (V.bl b = V.bl c) = decide (b = c) := by simp
  rw [e]
  exact q
theorem g_eqS {b c : Str} (q : Q (.bl (decide (b = c))) H) : rEq (.str b) (.str c) H Q := by
  refine ⟨rfl, ?_⟩
  have e : decide (V.str b = V.str c) = decide (b = c) := by simp
  rw [e]
  exact q
theorem g_neS {b c : Str} (q : Q (.bl (!decide (b = c))) H) : rNe (.str b) (.str c) H Q := by
  refine ⟨rfl, ?_⟩
  have e : decide (V.str b = V.str c) = decide (b = c) := by simp
  rw [e]
  exact q
theorem g_isN (q : Q (.bl (decide (x = .non))) H) : rIsN x .non H Q := ⟨rfl, q⟩
theorem g_notN (q : Q (.bl (!decide (x = .non))) H) : rNotN x .non H Q := ⟨rfl, q⟩
theorem g_isB {b c : Bool} (q : Q (.bl (decide (b = c))) H) : rIsB (.bl b) (.bl c) H Q := ⟨b, c, rfl, rfl, q⟩
theorem g_notB {b c : Bool} (q : Q (.bl (!decide (b = c))) H) : rNotB (.bl b) (.bl c) H Q := ⟨b, c, rfl, rfl, q⟩
theorem g_catS {a b : Str} (h : a.length + b.length ≤ sizeLine) (q : Q (.str (a ++ b)) H) : rCatS (.str a) (.str b) H Q := ⟨a, b, rfl, rfl, h, q⟩
theorem g_rep {a : Str} (h0 : 0 ≤ i) (h1 : i ≤ 4096) (hz : a.length ≤ 1024) (q : Q (.str (strRep a i)) H) : rStrRep (.str a) (.int i) H Q := ⟨a, i, rfl, rfl, h0, h1, hz, q⟩
theorem g_tt {R : Bool → Hp → Prop} (q : te σ H fun x H' => ∃ k, x = .bl k ∧ R k H') : tTest te σ H R := q
theorem g_tB {R : Bool → Hp → Prop} (q : te σ H fun x H' => ∃ k, x = .bl k ∧ R k H') : tB te σ H R := q
theorem g_bl {R : Bool → Hp → Prop} (q : R k H) : ∃ k', V.bl k = .bl k' ∧ R k' H := ⟨k, rfl, q⟩
theorem g_blA {A : Bool → Prop} (q : A k) : ∃ k', V.bl k = .bl k' ∧ A k' := ⟨k, rfl, q⟩
theorem g_and {a b : TT} {R : Bool → Hp → Prop} (q : a σ H fun c H1 => if c = true then b σ H1 R else R false H1) : tAnd a b σ H R := q
theorem g_or {a b : TT} {R : Bool → Hp → Prop} (q : a σ H fun c H1 => if c = true then R true H1 else b σ H1 R) : tOr a b σ H R := q
theorem g_not {a : TT} {R : Bool → Hp → Prop} (q : a σ H fun c H1 => R (!c) H1) : tNot a σ H R := q
theorem g_andV (q : ta σ H fun x H1 => ∃ c, x = .bl c ∧ if c = true then tb σ H1 Q else Q (.bl false) H1) : tAndV ta tb σ H Q := q
theorem g_orV (q : ta σ H fun x H1 => ∃ c, x = .bl c ∧ if c = true then Q (.bl true) H1 else tb σ H1 Q) : tOrV ta tb σ H Q := q
theorem g_notV (q : ta σ H fun x H1 => ∃ c, x = .bl c ∧ Q (.bl (!c)) H1) : tNotV ta σ H Q := q
theorem g_if {c : TT} (q : c σ H fun b H1 => if b = true then ta σ H1 Q else tb σ H1 Q) : tIf c ta tb σ H Q := q
theorem g_nil {R : List V → Hp → Prop} (q : R [] H) : tNil σ H R := q
theorem g_cons {s : TA} {R : List V → Hp → Prop} (q : ta σ H fun x H1 => s σ H1 fun xs H2 => R (x :: xs) H2) : tCons ta s σ H R := q
theorem g_chn {w : V → TE} (q : ta σ H fun x H1 => w x σ H1 Q) : tChn ta w σ H Q := q
theorem g_cl (q : tb σ H fun y H1 => r x y H1 Q) : cLast r tb x σ H Q := q
theorem g_cc {w : V → TE} (q : tb σ H fun y H1 => r x y H1 fun z H2 => ∃ k, z = .bl k ∧ if k = true then w y σ H2 Q else Q (.bl false) H2) : cCons r tb w x σ H Q := q
theorem g_fld {f : Str} (q : ta σ H fun x H1 => ∃ a C dx fs v, x = .ref a ∧ H1 a = some (.ins C dx fs) ∧ Cls K C ∧ NoAttr K C f ∧ fs.lookup f = some v ∧ Q v H1) : tFld K ta f σ H Q := q
theorem g_cB {s : List V → Hp → VK → Prop} {as : TA} (q : as σ H fun vs H1 => s vs H1 Q) : tCB s as σ H Q := q
theorem g_call {sp : Sp} {E : XK} {as : TA} (q : as σ H fun vs H1 => sp vs H1 Q E) : tCall sp [] E as σ H Q := by
  unfold tCall
  have e : (fun (vs : List V) H1 => sp (vs ++ []) H1 Q E) = fun vs H1 => sp vs H1 Q E := by
    funext vs H1
    rw [List.append_nil]
  rw [e]
  exact q
theorem g_callS {sp : Sp} {E : L2.St → XK} {as : TA} (q : as σ H fun vs H1 => sp vs H1 Q (E σ)) : tCallS sp E as σ H Q := q
theorem g_meth {C : Addr} {m : Str} {sp : Sp} {E : XK} {as : TA} (q : ta σ H fun x H1 => ∃ a dx fs, x = .ref a ∧ H1 a = some (.ins C dx fs) ∧ fs.lookup m = none ∧ as σ H1 fun vs H2 => sp (x :: vs) H2 Q E) : tMeth C m sp [] E ta as σ H Q := by
  unfold tMeth
  have e : (fun (x : V) H1 => ∃ a dx fs, x = .ref a ∧ H1 a = some (.ins C dx fs) ∧ fs.lookup m = none ∧ as σ H1 fun vs H2 => sp (x :: (vs ++ [])) H2 Q E) = fun x H1 => ∃ a dx fs, x = .ref a ∧ H1 a = some (.ins C dx fs) ∧ fs.lookup m = none ∧ as σ H1 fun vs H2 => sp (x :: vs) H2 Q E := by
    funext x H1
    simp only [List.append_nil]
  rw [e]
  exact q
theorem g_methS {C : Addr} {m : Str} {sp : Sp} {E : L2.St → XK} {as : TA} (q : ta σ H fun x H1 => ∃ a dx fs, x = .ref a ∧ H1 a = some (.ins C dx fs) ∧ fs.lookup m = none ∧ as σ H1 fun vs H2 => sp (x :: vs) H2 Q (E σ)) : tMethS C m sp E ta as σ H Q := q
/-- the receiver is known -/
theorem g_rcv {C dx : Addr} {m : Str} {fs : List (Str × V)} {A : Prop} (hF : Same F H) (h : F p = some (.ins C dx fs)) (l : fs.lookup m = none) (q : A) : ∃ a dx fs, V.ref p = .ref a ∧ H a = some (.ins C dx fs) ∧ fs.lookup m = none ∧ A :=
  ⟨p, dx, fs, rfl, hF _ _ h, l, q⟩
theorem g_get {C dx : Addr} {f : Str} {fs : List (Str × V)} {A : V → Prop} (hF : Same F H) (h : F p = some (.ins C dx fs)) (c : Cls K C) (n : NoAttr K C f) (l : fs.lookup f = some v) (q : A v) :
    ∃ a C dx fs v, V.ref p = .ref a ∧ H a = some (.ins C dx fs) ∧ Cls K C ∧ NoAttr K C f ∧ fs.lookup f = some v ∧ A v := ⟨p, C, dx, fs, v, rfl, hF _ _ h, c, n, l, q⟩
/-- new: a tuple, a list; kept, or forgotten -/
theorem sUp {F H : Hp} (h : Same F H) {p : Addr} {o : HO} : Same (upd F p o) (upd H p o) := fun b u e => by
  by_cases hb : b = p
  · subst hb
    rw [upd_same] at e ⊢
    exact e
  · rw [upd_ne hb] at e ⊢
    exact h b u e
theorem same_new {F : Hp} {p : Addr} {o : HO} (h : F p = none) : Same F (upd F p o) := fun b u e => by
  rw [upd_ne (ne_of_none e h)]
  exact e
theorem sLow {F F' H : Hp} (h : Same F H) (e : Same F' F) : Same F' H := fun b u z => h b u (e b u z)
theorem sFr {F H : Hp} (h : Same F H) {p : Addr} (e : H p = none) : F p = none := h.free e
/-- free -/
def Nn (F : Hp) (p : Addr) : Prop := F p = none
theorem sUpE {F H H' : Hp} {p : Addr} {o : HO} (h : Same F H) (e : upd H p o = H') : Same (upd F p o) H' := e ▸ sUp h
/-- a new object of n items -/
def NewO (n : Nat) (o : HO) (R : Addr → Hp → Prop) (H : Hp) : Prop := n ≤ sizeLine ∧ ∀ p, H p = none → R p (upd H p o)
theorem g_tup {as : TA} (q : as σ H fun xs H1 => NewO xs.length (.tup xs) (fun p H2 => Q (.ref p) H2) H1) : tTup as σ H Q := q
theorem g_lst {as : TA} (q : as σ H fun xs H1 => NewO xs.length (.lst xs) (fun p H2 => Q (.ref p) H2) H1) : tLst as σ H Q := q
theorem g_newO {o : HO} {R : Addr → Hp → Prop} (hF : Same F H) (hl : n ≤ 1000) (q : ∀ p H', Nn F p → Same (upd F p o) H' → R p H') : NewO n o R H :=
  ⟨Nat.le_trans hl (by decide), fun p hp => q p _ (sFr hF hp) (sUp hF)⟩
/-- an instance of an own class, and what its __init__ promises -/
def MakeO (C : Addr) (sp : Sp) (E : XK) (vs : List V) (R : Addr → Hp → Prop) (H : Hp) : Prop := ∀ x dx, H x = none → H dx = none → dx ≠ x → sp (.ref x :: vs) (upd (upd H dx (.own x)) x (.ins C dx [])) (fun v H2 => v = .non ∧ R x H2) E
theorem g_make {C : Addr} {sp : Sp} {E : XK} {as : TA} (q : as σ H fun vs H1 => MakeO C sp E vs (fun p H2 => Q (.ref p) H2) H1) : tMake C sp [] E as σ H Q := by
  unfold tMake
  have e : (fun (vs : List V) H1 => ∀ x dx, H1 x = none → H1 dx = none → dx ≠ x → sp (.ref x :: (vs ++ [])) (upd (upd H1 dx (.own x)) x (.ins C dx [])) (fun v H2 => v = .non ∧ Q (.ref x) H2) E) = fun vs H1 => MakeO C sp E vs (fun p H2 => Q (.ref p) H2) H1 := by
    funext vs H1
    rw [List.append_nil]
    rfl
  rw [e]
  exact q
theorem g_slL {lo hi : Option Int} (hF : Same F H) (h : SqL K F p xs) (q : ∀ l H', Nn F l → Same (upd F l (.lst (cutV xs lo hi))) H' → Q (.ref l) H') : rSlL K (.ref p) lo hi H Q :=
  ⟨p, xs, rfl, Same.seq hF h, fun l hl => q l _ (sFr hF hl) (sUp hF)⟩
theorem sqL_of (hF : Same F H) (h : F p = some (.lst xs)) : SqL K H p xs := .inl (.inl (hF _ _ h))
theorem sqT_of (hF : Same F H) (h : F p = some (.tup xs)) : SqT K H p xs := .inl (.inl (hF _ _ h))
theorem sSqT {F H : Hp} (e : Same F H) (h : SqT K F p xs) : SqT K H p xs := by
  rcases h with (h | ⟨o, h⟩) | h
  · exact .inl (.inl (e _ _ h))
  · exact .inl (.inr ⟨o, e _ _ h⟩)
  · exact .inr h
theorem g_ixL (h : SqL K H p xs) (e : atI xs i = some v) (q : Q v H) : rIxL K (.ref p) (.int i) H Q := ⟨p, xs, i, v, rfl, rfl, h, e, q⟩
theorem g_ixT (h : SqT K H p xs) (e : atI xs i = some v) (q : Q v H) : rIxT K (.ref p) (.int i) H Q := ⟨p, xs, i, v, rfl, rfl, h, e, q⟩
theorem g_in {neg : Bool} (h : SqL K H p xs ∨ SqT K H p xs) (hx : flatV x = true) (ha : xs.all flatV = true) (q : Q (.bl (if neg then !inV x xs else inV x xs)) H) : rIn K neg x (.ref p) H Q := ⟨p, xs, rfl, h, hx, ha, q⟩
theorem g_len (h : SqL K H p xs) (q : Q (.int (xs.length : Nat)) H) : rLen K [.ref p] H Q := ⟨.ref p, xs.length, rfl, .inl ⟨xs, h, rfl⟩, q⟩
theorem g_lenT (h : SqT K H p xs) (q : Q (.int (xs.length : Nat)) H) : rLen K [.ref p] H Q := ⟨.ref p, xs.length, rfl, .inr ⟨xs, h, rfl⟩, q⟩
theorem g_lenS {s : Str} (h : s.length ≤ sizeLine) (q : Q (.int (s.length : Nat)) H) : rLen K [.str s] H Q := ⟨.str s, s.length, rfl, ⟨h, rfl⟩, q⟩
theorem g_int1 (q : Q (.int i) H) : rInt1 [.int i] H Q := .inl ⟨i, rfl, q⟩
theorem g_int1b (q : Q (.int (if k then 1 else 0)) H) : rInt1 [.bl k] H Q := .inr ⟨k, rfl, q⟩
theorem g_max2 (q : Q (.int (if j > i then j else i)) H) : rMax2 [.int i, .int j] H Q := ⟨i, j, rfl, q⟩
theorem g_min2 (q : Q (.int (if j < i then j else i)) H) : rMin2 [.int i, .int j] H Q := ⟨i, j, rfl, q⟩
theorem g_strI (h : i.natAbs.log2 < 1920) (q : Q (.str (toString i)) H) : rStrI [.int i] H Q := ⟨i, rfl, h, q⟩
theorem g_isi {c : V} {t w : Value} {b : Bool} (hc : ClsV c w) (hx : TyX K H x t) (e : PySem.W.kitOne K t w = some b) (q : Q (.bl b) H) : rIsi K [x, c] H Q := ⟨x, c, t, w, b, rfl, hc, hx, e, q⟩
theorem g_typ {T : String} (h : TyB K H x T) (q : Q (.ty T) H) : rTyp K [x] H Q := ⟨x, T, rfl, h, q⟩
theorem g_isT {a b : String} (q : Q (.bl (decide (a = b))) H) : rIT (.ty a) (.ty b) H Q := ⟨a, b, rfl, rfl, q⟩
/-! statements -/
variable {nN nB nC : L2.St → Hp → Prop} {nR : VK}
theorem g_seq (q : t (Ends.mk (u (Ends.mk nN nR nB nC)) nR nB nC) σ H) : tSeq t u (Ends.mk nN nR nB nC) σ H := q
theorem g_set {n : Nat} (q : te σ H fun x H1 => u (Ends.mk nN nR nB nC) (σ.set n (some x)) H1) : tSeq (tAsg te (gName n)) u (Ends.mk nN nR nB nC) σ H := q
theorem g_set1 {n : Nat} (q : te σ H fun x H1 => nN (σ.set n (some x)) H1) : tAsg te (gName n) (Ends.mk nN nR nB nC) σ H := q
theorem g_asg {g : TG} (q : te σ H fun x H1 => g x σ H1 nN) : tAsg te g (Ends.mk nN nR nB nC) σ H := q
theorem g_ret (q : te σ H nR) : tRet te (Ends.mk nN nR nB nC) σ H := q
theorem g_retN (q : nR .non H) : tRetN (Ends.mk nN nR nB nC) σ H := q
theorem g_ifS {c : TT} (q : c σ H fun b H1 => if b = true then t (Ends.mk nN nR nB nC) σ H1 else u (Ends.mk nN nR nB nC) σ H1) : tIfS c t u (Ends.mk nN nR nB nC) σ H := q
theorem g_drop (q : te σ H fun _ H1 => nN σ H1) : tDrop te (Ends.mk nN nR nB nC) σ H := q
theorem g_next (q : nN σ H) : tNext (Ends.mk nN nR nB nC) σ H := q
theorem g_cont (q : nC σ H) : tCont (Ends.mk nN nR nB nC) σ H := q
theorem g_brk (q : nB σ H) : tBreak (Ends.mk nN nR nB nC) σ H := q
def PutO (K : PySem.W.Frag) (f : Str) (y : V) (R : Hp → Prop) (x : V) (H : Hp) : Prop := ∃ a C dx fs, x = .ref a ∧ H a = some (.ins C dx fs) ∧ Cls K C ∧ NoAttr K C f ∧ fs.length < 1000 ∧ R (upd H a (.ins C dx (putF f y fs)))
theorem g_put {C dx : Addr} {f : Str} {fs fs' : List (Str × V)} {R : Hp → Prop} (hF : Same F H) (h : F p = some (.ins C dx fs)) (c : Cls K C) (n : NoAttr K C f) (hl : fs.length < 1000) (e : putF f y fs = fs') (q : ∀ H', Same (upd F p (.ins C dx fs')) H' → R H') : PutO K f y R (.ref p) H :=
  ⟨p, C, dx, fs, rfl, hF _ _ h, c, n, hl, by rw [e]; exact q _ (sUp hF)⟩
theorem g_sfld {tv : TE} {f : Str} (q : tv σ H fun y H1 => ta σ H1 fun x H2 => PutO K f y (fun H3 => nN σ H3) x H2) : sFld K ta tv f (Ends.mk nN nR nB nC) σ H := q
/-! ways -/
theorem w_true {A B : Prop} (q : A) : if true = true then A else B := by rw [if_pos rfl]; exact q
theorem w_false {A B : Prop} (q : B) : if false = true then A else B := by rw [if_neg Bool.false_ne_true]; exact q
theorem w_dec {c A B : Prop} [Decidable c] (h1 : c → A) (h2 : ¬ c → B) : if decide c = true then A else B := by
  by_cases h : c
  · rw [if_pos (decide_eq_true h)]; exact h1 h
  · rw [if_neg (by simpa using h)]; exact h2 h
theorem w_ndec {c A B : Prop} [Decidable c] (h1 : ¬ c → A) (h2 : c → B) : if (!decide c) = true then A else B := by
  by_cases h : c
  · rw [if_neg (by simpa using h)]; exact h2 h
  · rw [if_pos (by simpa using h)]; exact h1 h
theorem w_bool {A B : Prop} {b : Bool} (h1 : b = true → A) (h2 : b = false → B) : if b = true then A else B := by
  cases b with
  | true => exact w_true (h1 rfl)
  | false => exact w_false (h2 rfl)
/-! tests that change nothing: their answer, once -/
def An (t : TT) (σ : L2.St) (H : Hp) (b : Bool) : Prop := ∀ R : Bool → Hp → Prop, R b H → t σ H R
def Vl (t : TE) (σ : L2.St) (H : Hp) (v : V) : Prop := ∀ R : VK, R v H → t σ H R
theorem an_and {a b : TT} {m l : Bool} (h1 : An a σ H m) (h2 : m = true → An b σ H l) : An (tAnd a b) σ H (m && l) := fun R q => h1 _ (by
  cases m with
  | true => exact w_true (h2 rfl R q)
  | false => exact w_false q)
theorem an_or {a b : TT} {m l : Bool} (h1 : An a σ H m) (h2 : m = false → An b σ H l) : An (tOr a b) σ H (m || l) := fun R q => h1 _ (by
  cases m with
  | true => exact w_true q
  | false => exact w_false (h2 rfl R q))
theorem an_not {a : TT} {m : Bool} (h1 : An a σ H m) : An (tNot a) σ H (!m) := fun R q => h1 _ q
theorem an_ifS {D : Ends} {c : TT} {b : Bool} (h : An c σ H b) (h1 : b = true → t D σ H) (h2 : b = false → u D σ H) : tIfS c t u D σ H := h _ (w_bool h1 h2)
end
/-! promises over a lower heap -/
def spG (R : List V → Hp → (V → Hp → Prop) → (Value → Option Addr → Hp → Prop) → Prop) : Sp := fun vs H Q E => ∃ F, Same F H ∧ R vs F (fun v F' => ∀ H', Same F' H' → Q v H') fun c d F' => ∀ H', Same F' H' → E c d H'
theorem g_sp {R : List V → Hp → (V → Hp → Prop) → (Value → Option Addr → Hp → Prop) → Prop} {F H : Hp} {vs : List V} {Q : VK} {E : XK} (hF : Same F H) (q : R vs F (fun v F' => ∀ H', Same F' H' → Q v H') fun c d F' => ∀ H', Same F' H' → E c d H') : spG R vs H Q E := ⟨F, hF, q⟩
end Rp
namespace Rp
open PySem PySem.Spec PyProof.Rows L2
theorem pss_ex {X : Cx} {ι : Type} {c : ι → Prop} {body : List Stmt} {t : ι → TS} (h : ∀ i, c i → PSs X body (t i)) : PSs X body (fun D σ H => ∃ i, c i ∧ t i D σ H) := ⟨fun pins s σ H D I q => let ⟨i, hc, q⟩ := q; (h i hc).run pins s σ H D I q⟩
theorem roomMark {k : Nat} {A : Around} {v : Option Value} (h : L2H.RoomH k A) : L2H.RoomH k (A.mark v) := ⟨h.dp, h.un⟩
theorem kit_same {K : PySem.W.Frag} {c : Value} : PySem.W.kitOne K c c = some true := by
  unfold PySem.W.kitOne
  rw [if_pos (by simp)]
theorem kit_sub {K : PySem.W.Frag} {D C : Addr} {b : Bool} (h0 : (Value.ref D == Value.ref C) = false) (h1 : PySem.W.isClsIn K C = true) (h2 : PySem.W.typeIn K (.ref C) = some (.type "type")) (h3 : PySem.W.subIn K (.ref D) (.ref C) = some b) : PySem.W.kitOne K (.ref D) (.ref C) = some b := by
  unfold PySem.W.kitOne
  rw [h0, if_neg Bool.false_ne_true]
  have h1' : (PySem.W.clsIn K C).isSome = true := h1
  show (if ((PySem.W.clsIn K C).isSome && PySem.W.typeIn K (.ref C) == some (.type "type")) = true then PySem.W.subIn K (.ref D) (.ref C) else none) = some b
  have e2 : ((PySem.W.clsIn K C).isSome && PySem.W.typeIn K (.ref C) == some (.type "type")) = true := by rw [h1', h2] <;> rfl
  rw [if_pos e2]
  exact h3
theorem kit_ve {K : PySem.W.Frag} {D : Addr} (h : PySem.W.subIn K (.ref D) (.type "ValueError") = some true) : PySem.W.kitOne K (.ref D) (.type "ValueError") = some true := by
  show (if (Value.ref D == Value.type "ValueError") = true then some true else (if PySem.W.kitMeta "ValueError" = true then PySem.W.subIn K (.ref D) (.type "ValueError") else none)) = some true
  rw [if_neg (by intro z; cases z), if_pos (by decide +kernel), h]
theorem exm_sub {K : PySem.W.Frag} {D C : Addr} {b : Bool} (h0 : PySem.W.subIn K (.ref C) (.type "BaseException") = some true) (h1 : PySem.W.isClsIn K C = true) (h2 : PySem.W.typeIn K (.ref C) = some (.type "type")) (h3 : PySem.W.subIn K (.ref D) (.ref C) = some b) : PySem.W.exmOne K (.ref D) (.ref C) = some b := by
  have h1' : (PySem.W.clsIn K C).isSome = true := h1
  have e1 : (PySem.W.subIn K (.ref C) (.type "BaseException") == some true) = true := by rw [h0] <;> rfl
  have e2 : ((PySem.W.clsIn K C).isSome && PySem.W.typeIn K (.ref C) == some (.type "type")) = true := by rw [h1', h2] <;> rfl
  unfold PySem.W.exmOne
  rw [if_pos e1]
  show (if ((PySem.W.clsIn K C).isSome && PySem.W.typeIn K (.ref C) == some (.type "type")) = true then PySem.W.subIn K (.ref D) (.ref C) else none) = some b
  rw [if_pos e2]
  exact h3
/-- what the law promises -/
def spLaw (K : PySem.W.Frag) : Sp := spG fun vs F Kk _ => ∃ (p : Addr) (ns : List Int), vs = [.ref p] ∧ SqL K F p (ns.map V.int) ∧ ns.length ≤ 63 ∧ ∀ F', Same F F' → Kk (.bl true) F'
end Rp
namespace Rp
open PySem PySem.Spec PyProof.Rows L2
/-! kinds -/
inductive Kd (F : Hp) : V → Prop where
  | non : Kd F .non
  | bl (b : Bool) : Kd F (.bl b)
  | int (i : Int) : Kd F (.int i)
  | str (x : Str) : Kd F (.str x)
  | lst {p : Addr} {xs : List V} (h : F p = some (.lst xs)) : Kd F (.ref p)
  | tup {p : Addr} {xs : List V} (h : F p = some (.tup xs)) : Kd F (.ref p)
  | dK {p : Addr} {kvs : List (Key × V)} (h : F p = some (.dK kvs)) : Kd F (.ref p)
def isInt : V → Bool
  | .int _ => true
  | _ => false
theorem Kd.mono {F F' : Hp} {x : V} (e : Same F F') (h : Kd F x) : Kd F' x := by
  cases h with
  | non => exact .non
  | bl b => exact .bl b
  | int i => exact .int i
  | str x => exact .str x
  | lst h => exact .lst (e _ _ h)
  | tup h => exact .tup (e _ _ h)
  | dK h => exact .dK (e _ _ h)
/-- type(x) is int -/
theorem Kd.typ {K : PySem.W.Frag} {F H : Hp} {x : V} {Q : VK} (h : Kd F x) (hF : Same F H) (q : Q (.bl (isInt x)) H) : rTyp K [x] H fun y H1 => rIT y (.ty "int") H1 Q := by
  cases h with
  | non => exact ⟨_, _, rfl, .non, "NoneType", "int", rfl, rfl, q⟩
  | bl b => exact ⟨_, _, rfl, .bl b, "bool", "int", rfl, rfl, q⟩
  | int i => exact ⟨_, _, rfl, .int i, "int", "int", rfl, rfl, q⟩
  | str z => exact ⟨_, _, rfl, .str z, "str", "int", rfl, rfl, q⟩
  | lst h => exact ⟨_, _, rfl, .lst (sqL_of hF h), "list", "int", rfl, rfl, q⟩
  | tup h => exact ⟨_, _, rfl, .tup (sqT_of hF h), "tuple", "int", rfl, rfl, q⟩
  | dK h => exact ⟨_, _, rfl, .dK (hF _ _ h), "dict", "int", rfl, rfl, q⟩
def cell (ns : List Int) (i : Int) : Int := ns.getD i.toNat 0
def mixed (c i : Int) : Int := (c * 48271 + 7919 * (i + 1) * (i + 3)) % 2147483647
end Rp
namespace Rp
open PySem PySem.Spec PyProof.Rows L2
theorem upd_id {F : Hp} {p : Addr} {o : HO} (h : F p = some o) : upd F p o = F := by
  funext b
  by_cases e : b = p
  · subst e
    rw [upd_same, h]
  · rw [upd_ne e]
end Rp
namespace Rp
open PySem PySem.Spec PyProof.Rows L2
theorem w_nt {A B : Prop} (q : B) : if (!true) = true then A else B := w_false q
theorem w_nf {A B : Prop} (q : A) : if (!false) = true then A else B := w_true q
theorem isInt_int {i : Int} : isInt (.int i) = true := rfl
end Rp
namespace Rp
open PySem PySem.Spec PyProof.Rows L2
theorem g_eqD {K : PySem.W.Frag} {H : Hp} {x y : V} {Q : VK} {d e : PyData} (h1 : Dp K H x d) (h2 : Dp K H y e) (s1 : SeqAt.shaped d = true) (s2 : SeqAt.shaped e = true) (q : Q (.bl (PyData.eqv d e)) H) : rEqD K x y H Q := ⟨d, e, h1, h2, s1, s2, q⟩
theorem g_neD {K : PySem.W.Frag} {H : Hp} {x y : V} {Q : VK} {d e : PyData} (h1 : Dp K H x d) (h2 : Dp K H y e) (s1 : SeqAt.shaped d = true) (s2 : SeqAt.shaped e = true) (q : Q (.bl (!PyData.eqv d e)) H) : rNeD K x y H Q := ⟨d, e, h1, h2, s1, s2, q⟩
def isBl : V → Bool
  | .bl _ => true
  | _ => false
theorem Kd.isi {K : PySem.W.Frag} {F H : Hp} {x : V} {Q : VK} (h : Kd F x) (hF : Same F H) (q : Q (.bl (isInt x || isBl x)) H) : rIsi K [x, .ty "int"] H Q := by
  cases h with
  | non => exact ⟨_, _, _, _, false, rfl, .ty _, .base .non, kit_ty (by decide +kernel), q⟩
  | bl b => exact ⟨_, _, _, _, true, rfl, .ty _, .base (.bl b), kit_ty (by decide +kernel), q⟩
  | int i => exact ⟨_, _, _, _, true, rfl, .ty _, .base (.int i), kit_ty (by decide +kernel), q⟩
  | str z => exact ⟨_, _, _, _, false, rfl, .ty _, .base (.str z), kit_ty (by decide +kernel), q⟩
  | lst h => exact ⟨_, _, _, _, false, rfl, .ty _, .base (.lst (hF _ _ h)), kit_ty (by decide +kernel), q⟩
  | tup h => exact ⟨_, _, _, _, false, rfl, .ty _, .base (.tup (hF _ _ h)), kit_ty (by decide +kernel), q⟩
  | dK h => exact ⟨_, _, _, _, false, rfl, .ty _, .base (.dK (hF _ _ h)), kit_ty (by decide +kernel), q⟩
theorem Kd.isb {K : PySem.W.Frag} {F H : Hp} {x : V} {Q : VK} (h : Kd F x) (hF : Same F H) (q : Q (.bl (isBl x)) H) : rIsi K [x, .ty "bool"] H Q := by
  cases h with
  | non => exact ⟨_, _, _, _, false, rfl, .ty _, .base .non, kit_ty (by decide +kernel), q⟩
  | bl b => exact ⟨_, _, _, _, true, rfl, .ty _, .base (.bl b), kit_ty (by decide +kernel), q⟩
  | int i => exact ⟨_, _, _, _, false, rfl, .ty _, .base (.int i), kit_ty (by decide +kernel), q⟩
  | str z => exact ⟨_, _, _, _, false, rfl, .ty _, .base (.str z), kit_ty (by decide +kernel), q⟩
  | lst h => exact ⟨_, _, _, _, false, rfl, .ty _, .base (.lst (hF _ _ h)), kit_ty (by decide +kernel), q⟩
  | tup h => exact ⟨_, _, _, _, false, rfl, .ty _, .base (.tup (hF _ _ h)), kit_ty (by decide +kernel), q⟩
  | dK h => exact ⟨_, _, _, _, false, rfl, .ty _, .base (.dK (hF _ _ h)), kit_ty (by decide +kernel), q⟩
theorem isi_tup {K : PySem.W.Frag} {F H : Hp} {p : Addr} {xs : List V} {Q : VK} (hF : Same F H) (h : F p = some (.tup xs)) (q : Q (.bl true) H) : rIsi K [.ref p, .ty "tuple"] H Q := ⟨_, _, _, _, true, rfl, .ty _, .base (.tup (hF _ _ h)), kit_ty (by decide +kernel), q⟩
theorem isi_lst {K : PySem.W.Frag} {F H : Hp} {p : Addr} {xs : List V} {Q : VK} (hF : Same F H) (h : F p = some (.lst xs)) (q : Q (.bl true) H) : rIsi K [.ref p, .ty "list"] H Q := ⟨_, _, _, _, true, rfl, .ty _, .base (.lst (hF _ _ h)), kit_ty (by decide +kernel), q⟩
theorem atI_of {xs : List V} {i : Int} {v : V} (h0 : 0 ≤ i) (h : xs[i.toNat]? = some v) : atI xs i = some v := at_of (j := i.toNat) (by omega) h
theorem cell_in {ns : List Int} {i : Int} (h0 : 0 ≤ i) (h : i < (ns.map V.int).length) : atI (ns.map V.int) i = some (.int (cell ns i)) := by
  rw [List.length_map] at h
  have hl : i.toNat < ns.length := by omega
  refine atI_of h0 ?_
  unfold cell
  rw [List.getElem?_map, List.getD_eq_getElem?_getD, List.getElem?_eq_getElem hl]
  rfl
theorem cell_off {ns : List Int} {i : Int} (h0 : 0 ≤ i) (h : ¬ i < (ns.map V.int).length) : cell ns i = 0 := by
  rw [List.length_map] at h
  unfold cell
  rw [List.getD_eq_getElem?_getD, List.getElem?_eq_none (by omega)]
  rfl
theorem isE_of {K : PySem.W.Frag} {D a C : Addr} {b : Bool} {H : Hp} {Q : VK} (h : PySem.W.kitOne K (.ref D) (.ref C) = some b) (q : Q (.bl b) H) : rIsE K D a [.ref a, .ref C] H Q := ⟨_, _, b, rfl, fun _ z => z, h, q⟩
theorem isE_ty {K : PySem.W.Frag} {D a : Addr} {n : String} {b : Bool} {H : Hp} {Q : VK} (h : PySem.W.kitOne K (.ref D) (.type n) = some b) (q : Q (.bl b) H) : rIsE K D a [.ref a, .ty n] H Q := ⟨_, _, b, rfl, fun _ z => z, h, q⟩
theorem mixed_nn (c i : Int) : 0 ≤ mixed c i := Int.emod_nonneg _ (by decide)
theorem mixed_lt (c i : Int) : mixed c i < 2147483647 := Int.emod_lt_of_pos _ (by decide)
end Rp
namespace Rp
open PySem PySem.Spec PyProof.Rows L2
theorem g_mk {C : Addr} {R : List V → Hp → (V → Hp → Prop) → (Value → Option Addr → Hp → Prop) → Prop} {E : XK} {vs : List V} {W : Addr → Hp → Prop} {F H : Hp} (hF : Same F H)
    (q : ∀ x dx, Nn F x → Nn F dx → dx ≠ x → R (.ref x :: vs) (upd (upd F dx (.own x)) x (.ins C dx [])) (fun v F' => ∀ H', Same F' H' → v = .non ∧ W x H') fun c d F' => ∀ H', Same F' H' → E c d H') : MakeO C (spG R) E vs W H :=
  fun x dx hx hd ne => ⟨_, sUp (sUp hF), q x dx (sFr hF hx) (sFr hF hd) ne⟩
theorem g_sl {r : V → Option Int → Option Int → Hp → VK → Prop} {te : TE} {tl th : TO} {σ : L2.St} {H : Hp} {Q : VK} (q : te σ H fun x H1 => tl σ H1 fun l H2 => th σ H2 fun u H3 => r x l u H3 Q) : tSl r te tl th σ H Q := q
theorem g_noP {σ : L2.St} {H : Hp} {Q : Option Int → Hp → Prop} (q : Q none H) : tNoPart σ H Q := q
theorem g_part {t : TE} {σ : L2.St} {H : Hp} {Q : Option Int → Hp → Prop} (q : t σ H fun x H1 => ∃ i, x = .int i ∧ Q (some i) H1) : tPart t σ H Q := q
theorem g_exI {A : Int → Prop} {i : Int} (q : A i) : ∃ j, V.int i = .int j ∧ A j := ⟨i, rfl, q⟩
/-! loops over a lower heap -/
def Lp (J : It) (g : TG) (tb : TS) (n : L2.St → Hp → Prop) (r : VK) (σ : L2.St) (H : Hp) : Prop := ∃ W : Nat → Nat → L2.St → Hp → Prop, (∃ m, W 0 m σ H) ∧ ∀ i m σ H, W i m σ H →
  (J.stop i H ∧ n σ H) ∨ (J.go i H ∧ ∃ N : L2.St → Hp → Prop, (∀ σ' H', N σ' H' → ∃ m', m' < m ∧ W (i + 1) m' σ' H') ∧ ∀ x H', J.yld i H x H' → g x σ H' fun σ2 H2 => tb (Ends.mk N r n N) σ2 H2)
def Up (P : L2.St → Hp → Prop) : L2.St → Hp → Prop := fun σ H => ∃ F, Same F H ∧ P σ F
section
variable {K : PySem.W.Frag} {σ : L2.St} {H F : Hp} {v : V} {tl : TE} {g : TG} {tb : TS} {p : Addr} {xs : List V} {lo : Int} {n : Nat} {nN nB nC : L2.St → Hp → Prop} {nR : VK}
theorem g_name {Q : L2.St → Hp → Prop} (q : Q (σ.set n (some v)) H) : gName n v σ H Q := q
theorem g_forL (q : tl σ H fun x H1 => ∃ a, x = .ref a ∧ (∃ xs, SqL K H1 a xs) ∧ Lp (Itl K a) g tb nN nR σ H1) : tFor (iList K tl) g tb (Ends.mk nN nR nB nC) σ H := q
theorem g_forT (q : tl σ H fun x H1 => ∃ a, x = .ref a ∧ (∃ xs, SqT K H1 a xs) ∧ Lp (Itt K a) g tb nN nR σ H1) : tFor (iTup K tl) g tb (Ends.mk nN nR nB nC) σ H := q
theorem g_itL {A : Addr → Prop} (h : SqL K H p xs) (q : A p) : ∃ a, V.ref p = .ref a ∧ (∃ xs, SqL K H a xs) ∧ A a := ⟨p, rfl, ⟨xs, h⟩, q⟩
theorem g_itT {A : Addr → Prop} (h : SqT K H p xs) (q : A p) : ∃ a, V.ref p = .ref a ∧ (∃ xs, SqT K H a xs) ∧ A a := ⟨p, rfl, ⟨xs, h⟩, q⟩
theorem g_forR1 {ta : TA} (q : ta σ H fun vs H1 => ∃ j : Int, vs = [.int j] ∧ -(2 ^ 62) ≤ j ∧ j < 2 ^ 62 ∧ Lp (Itr 0 j.toNat) g tb nN nR σ H1) : tFor (iRng1 ta) g tb (Ends.mk nN nR nB nC) σ H := q
theorem g_forR2 {ta : TA} (q : ta σ H fun vs H1 => ∃ i j : Int, vs = [.int i, .int j] ∧ (-(2 ^ 62) ≤ i ∧ i < 2 ^ 62 ∧ -(2 ^ 62) ≤ j ∧ j < 2 ^ 62) ∧ Lp (Itr i (j - i).toNat) g tb nN nR σ H1) : tFor (iRng2 ta) g tb (Ends.mk nN nR nB nC) σ H := q
theorem g_rg1 {A : Int → Prop} {j : Int} (h1 : -(2 ^ 62) ≤ j) (h2 : j < 2 ^ 62) (q : A j) : ∃ i : Int, [V.int j] = [V.int i] ∧ -(2 ^ 62) ≤ i ∧ i < 2 ^ 62 ∧ A i := ⟨j, rfl, h1, h2, q⟩
theorem g_rg2 {A : Int → Int → Prop} {i j : Int} (h1 : -(2 ^ 62) ≤ i) (h2 : i < 2 ^ 62) (h3 : -(2 ^ 62) ≤ j) (h4 : j < 2 ^ 62) (q : A i j) : ∃ i' j' : Int, [V.int i, V.int j] = [V.int i', V.int j'] ∧ (-(2 ^ 62) ≤ i' ∧ i' < 2 ^ 62 ∧ -(2 ^ 62) ≤ j' ∧ j' < 2 ^ 62) ∧ A i' j' := ⟨i, j, rfl, ⟨h1, h2, h3, h4⟩, q⟩
theorem lp_list (Pv : Nat → L2.St → Hp → Prop) (hF : Same F H) (h0 : Pv 0 σ F) (hl : ∀ i σ F, i ≤ xs.length → Pv i σ F → SqL K F p xs)
    (hs : ∀ i x σ F H, xs[i]? = some x → Pv i σ F → Same F H → g x σ H fun σ2 H2 => tb (Ends.mk (Up (Pv (i + 1))) nR nN (Up (Pv (i + 1)))) σ2 H2) (hd : ∀ σ F H, Pv xs.length σ F → Same F H → nN σ H) : Lp (Itl K p) g tb nN nR σ H :=
  for_list (D := Ends.mk nN nR (fun _ _ => False) (fun _ _ => False)) (xs := xs) (fun i => Up (Pv i)) ⟨F, hF, h0⟩ (fun i σ H hi ⟨F, hF, q⟩ => Same.seq hF (hl i σ F hi q)) (fun i x σ H hi ⟨F, hF, q⟩ => hs i x σ F H hi q hF) fun σ H ⟨F, hF, q⟩ => hd σ F H q hF
theorem lp_tup (Pv : Nat → L2.St → Hp → Prop) (hF : Same F H) (h0 : Pv 0 σ F) (hl : ∀ i σ F, i ≤ xs.length → Pv i σ F → SqT K F p xs)
    (hs : ∀ i x σ F H, xs[i]? = some x → Pv i σ F → Same F H → g x σ H fun σ2 H2 => tb (Ends.mk (Up (Pv (i + 1))) nR nN (Up (Pv (i + 1)))) σ2 H2) (hd : ∀ σ F H, Pv xs.length σ F → Same F H → nN σ H) : Lp (Itt K p) g tb nN nR σ H :=
  for_tup (D := Ends.mk nN nR (fun _ _ => False) (fun _ _ => False)) (xs := xs) (fun i => Up (Pv i)) ⟨F, hF, h0⟩ (fun i σ H hi ⟨F, hF, q⟩ => sSqT hF (hl i σ F hi q)) (fun i x σ H hi ⟨F, hF, q⟩ => hs i x σ F H hi q hF) fun σ H ⟨F, hF, q⟩ => hd σ F H q hF
theorem lp_range (Pv : Nat → L2.St → Hp → Prop) (hF : Same F H) (h0 : Pv 0 σ F)
    (hs : ∀ i σ F H, i < n → Pv i σ F → Same F H → g (.int (lo + i)) σ H fun σ2 H2 => tb (Ends.mk (Up (Pv (i + 1))) nR nN (Up (Pv (i + 1)))) σ2 H2) (hd : ∀ σ F H, Pv n σ F → Same F H → nN σ H) : Lp (Itr lo n) g tb nN nR σ H :=
  for_range (D := Ends.mk nN nR (fun _ _ => False) (fun _ _ => False)) (fun i => Up (Pv i)) ⟨F, hF, h0⟩ (fun i σ H hi ⟨F, hF, q⟩ => hs i σ F H hi q hF) fun σ H ⟨F, hF, q⟩ => hd σ F H q hF
theorem ne_n {H : Hp} {a b : Addr} {o : HO} (h' : Nn H b) (h : H a = some o) : a ≠ b := ne_of_none h h'
end
end Rp
namespace Rp
open PySem PySem.Spec PyProof.Rows L2
theorem eqv_ii {a b c d : Int} : PyData.eqv (.tuple [.int a, .int b]) (.tuple [.int c, .int d]) = (decide (a = c) && decide (b = d)) := by
  simp [PyData.eqv, PyData.eqvAll, Bool.beq_eq_decide_eq] <;> rfl
theorem menuI (ns : List Int) {i : Int} (h0 : 0 ≤ i) (h1 : i < ns.length) : ∃ k, k ∈ ns ∧ atI (ns.map V.int) i = some (.int k) := by
  have hl : i.toNat < ns.length := by omega
  refine ⟨ns[i.toNat], List.getElem_mem hl, atI_of h0 ?_⟩
  rw [List.getElem?_map, List.getElem?_eq_getElem hl]
  rfl
theorem menuV (xs : List V) {i : Int} (h0 : 0 ≤ i) (h1 : i < xs.length) : ∃ v, v ∈ xs ∧ atI xs i = some v := by
  have hl : i.toNat < xs.length := by omega
  exact ⟨xs[i.toNat], List.getElem_mem hl, atI_of h0 (List.getElem?_eq_getElem hl)⟩
theorem w_pos {c A B : Prop} [Decidable c] (h : c) (q : A) : if decide c = true then A else B := by rw [if_pos (decide_eq_true h)]; exact q
theorem w_neg {c A B : Prop} [Decidable c] (h : ¬ c) (q : B) : if decide c = true then A else B := by rw [if_neg (by simpa using h)]; exact q
end Rp
namespace Rp
open PySem PySem.Spec PyProof.Rows L2
theorem nn_ne {F : Hp} {p q : Addr} {o : HO} (h : Nn (upd F p o) q) : q ≠ p := by
  intro e
  subst e
  have h2 : upd F q o q = none := h
  rw [upd_same] at h2
  cases h2
theorem nn_low {F : Hp} {p q : Addr} {o : HO} (h : Nn (upd F p o) q) : Nn F q := by
  have h2 : upd F p o q = none := h
  rw [upd_ne (nn_ne h)] at h2
  exact h2
end Rp
namespace Rp
theorem w_ntt {A B : Prop} (q : B) : if (!(true && true)) = true then A else B := w_false q
end Rp
namespace Rp
open PySem PySem.Spec PyProof.Rows L2
theorem cutV_mem {xs : List V} {lo hi : Option Int} {x : V} (h : x ∈ cutV xs lo hi) : x ∈ xs := by
  unfold cutV at h
  exact List.mem_of_mem_drop (List.mem_of_mem_take h)
theorem cutV_int {ns : List Int} {lo hi : Option Int} {x : V} (h : x ∈ cutV (ns.map V.int) lo hi) : ∃ c, x = .int c := by
  obtain ⟨c, _, e⟩ := List.mem_map.mp (cutV_mem h)
  exact ⟨c, e.symm⟩
end Rp
namespace Rp
open PySem PySem.Spec PyProof.Rows L2
/-- an object that F does not know may change -/
theorem same_mut {F X : Hp} {p : Addr} {o : HO} (h : Nn F p) (e : Same F X) : Same F (upd X p o) := fun b u z => by
  have hb : b ≠ p := fun w => by
    subst w
    have h2 : F b = none := h
    rw [h2] at z
    cases z
  rw [upd_ne hb]
  exact e b u z
end Rp
namespace Rp
open PySem PySem.Spec PyProof.Rows L2
theorem g_menu {K : PySem.W.Frag} {F H : Hp} {p : Addr} {xs : List V} {i : Int} {Q : VK} (hF : Same F H) (h : F p = some (.lst xs)) (h0 : 0 ≤ i) (h1 : i < xs.length) (q : ∀ v, v ∈ xs → Q v H) : rIxL K (.ref p) (.int i) H Q := by
  obtain ⟨v, hv, e⟩ := menuV xs h0 h1
  exact g_ixL (sqL_of hF h) e (q v hv)
end Rp

namespace Rp
open PySem PySem.Spec PyProof.Rows L2
/-! comprehensions over a lower heap -/
def Lc (J : It) (g : TG) (tt : TT) (te : TE) (vs : List Nat) (R : Addr → Hp → Prop) (σ : L2.St) (H1 : Hp) : Prop := ∀ D, H1 D = none → ∃ W : Nat → Nat → Hp → Prop, (∃ m, W 0 m (upd H1 D (.lst []))) ∧ ∀ i m H, W i m H →
  (J.stop i H ∧ R D H) ∨ (J.go i H ∧ ∃ Nx : Hp → Prop, (∀ H', Nx H' → ∃ m', m' < m ∧ W (i + 1) m' H') ∧ ∀ x H', J.yld i H x H' → g x (wipe σ vs) H' fun σ2 H2 => wipe σ2 vs = wipe σ vs ∧ tt σ2 H2 fun b H3 =>
    if b = true then te σ2 H3 fun y H4 => ∃ acc, H4 D = some (.lst acc) ∧ acc.length < sizeLine ∧ Nx (upd H4 D (.lst (acc ++ [y]))) else Nx H3)
section
variable {K : PySem.W.Frag} {σ : L2.St} {H F : Hp} {tl te : TE} {tt : TT} {g : TG} {vs : List Nat} {p : Addr} {xs : List V} {lo : Int} {n m : Nat} {Q : VK} {R : Addr → Hp → Prop}
theorem g_lcL (q : tl σ H fun x H1 => ∃ a, x = .ref a ∧ (∃ xs, SqL K H1 a xs) ∧ Lc (Itl K a) g tt te vs (fun p H2 => Q (.ref p) H2) σ H1) : tLc (iList K tl) g tt te vs σ H Q := q
theorem g_lcR1 {ta : TA} (q : ta σ H fun us H1 => ∃ j : Int, us = [.int j] ∧ -(2 ^ 62) ≤ j ∧ j < 2 ^ 62 ∧ Lc (Itr 0 j.toNat) g tt te vs (fun p H2 => Q (.ref p) H2) σ H1) : tLc (iRng1 ta) g tt te vs σ H Q := q
theorem g_yes {T : Bool → Hp → Prop} (q : T true H) : tYes σ H T := q
theorem wipe1 {v : Option V} : wipe ((wipe σ [n]).set n v) [n] = wipe σ [n] := by
  show (((σ.set n none).set n v).set n none) = σ.set n none
  rw [List.set_set, List.set_set]
theorem same_at {F H : Hp} {D : Addr} {o : HO} (h : Same (upd F D o) H) : H D = some o := h D o upd_same
theorem same_reset {F H : Hp} {D : Addr} {o u : HO} (h : Same (upd F D o) H) : Same (upd F D u) (upd H D u) := fun b w e => by
  by_cases hb : b = D
  · subst hb
    rw [upd_same] at e ⊢
    exact e
  · rw [upd_ne hb] at e ⊢
    exact h b w (by rw [upd_ne hb]; exact e)
theorem lcp_list (Pv : Nat → List V → Prop) (hF : Same F H) (hs : SqL K F p xs) (hl : xs.length ≤ 1000) (h0 : Pv 0 [])
    (step : ∀ D i x acc H (Z : VK) (N : Hp → Prop), Nn F D → xs[i]? = some x → Pv i acc → acc.length ≤ i → Same (upd F D (.lst acc)) H → (∀ y H', Same (upd F D (.lst acc)) H' → Pv (i + 1) (acc ++ [y]) → Z y H') →
      (∀ H', Same (upd F D (.lst acc)) H' → Pv (i + 1) acc → N H') → tt (σ.set n (some x)) H fun b H3 => if b = true then te (σ.set n (some x)) H3 Z else N H3)
    (hd : ∀ D acc H, Nn F D → Pv xs.length acc → acc.length ≤ xs.length → Same (upd F D (.lst acc)) H → R D H) : Lc (Itl K p) (gName n) tt te [n] R σ H := by
  intro D hD
  have hn : Nn F D := sFr hF hD
  refine lc_list (K := K) (a := p) (xs := xs) (fun i H => ∃ acc, Pv i acc ∧ acc.length ≤ i ∧ Same (upd F D (.lst acc)) H) ⟨[], h0, Nat.le_refl _, sUp hF⟩ (fun i H hi ⟨acc, _, _, h⟩ => Same.seq (sLow h (same_new hn)) hs) (fun i x H hi ⟨acc, pv, la, h⟩ => ?_) (fun H ⟨acc, pv, la, h⟩ => hd D acc H hn pv la h)
  have hi' : i < xs.length := (List.getElem?_eq_some_iff.mp hi).1
  refine ⟨wipe1, ?_⟩
  have e : ((wipe σ [n]).set n (some x)) = σ.set n (some x) := by
    show ((σ.set n none).set n (some x)) = _
    rw [List.set_set]
  rw [e]
  refine step D i x acc H _ _ hn hi pv la h (fun y H4 q1 q2 => ?_) fun H3 q1 q2 => ?_
  · refine ⟨acc, same_at q1, Nat.lt_of_le_of_lt (Nat.le_trans la (Nat.le_of_lt hi')) (Nat.lt_of_le_of_lt hl (by decide)), acc ++ [y], q2, ?_, same_reset q1⟩
    rw [List.length_append]
    exact Nat.succ_le_succ la
  · exact ⟨acc, q2, Nat.le_succ_of_le la, q1⟩
theorem lcp_range (Pv : Nat → List V → Prop) (hF : Same F H) (hl : m ≤ 1000) (h0 : Pv 0 [])
    (step : ∀ D i acc H (Z : VK) (N : Hp → Prop), Nn F D → i < m → Pv i acc → acc.length ≤ i → Same (upd F D (.lst acc)) H → (∀ y H', Same (upd F D (.lst acc)) H' → Pv (i + 1) (acc ++ [y]) → Z y H') →
      (∀ H', Same (upd F D (.lst acc)) H' → Pv (i + 1) acc → N H') → tt (σ.set n (some (.int (lo + i)))) H fun b H3 => if b = true then te (σ.set n (some (.int (lo + i)))) H3 Z else N H3)
    (hd : ∀ D acc H, Nn F D → Pv m acc → acc.length ≤ m → Same (upd F D (.lst acc)) H → R D H) : Lc (Itr lo m) (gName n) tt te [n] R σ H := by
  intro D hD
  have hn : Nn F D := sFr hF hD
  refine lc_range (fun i H => ∃ acc, Pv i acc ∧ acc.length ≤ i ∧ Same (upd F D (.lst acc)) H) ⟨[], h0, Nat.le_refl _, sUp hF⟩ (fun i H hi ⟨acc, pv, la, h⟩ => ?_) (fun H ⟨acc, pv, la, h⟩ => hd D acc H hn pv la h)
  refine ⟨wipe1, ?_⟩
  have e : ((wipe σ [n]).set n (some (.int (lo + i)))) = σ.set n (some (.int (lo + i))) := by
    show ((σ.set n none).set n _) = _
    rw [List.set_set]
  rw [e]
  refine step D i acc H _ _ hn hi pv la h (fun y H4 q1 q2 => ?_) fun H3 q1 q2 => ?_
  · refine ⟨acc, same_at q1, Nat.lt_of_le_of_lt (Nat.le_trans la (Nat.le_of_lt hi)) (Nat.lt_of_le_of_lt hl (by decide)), acc ++ [y], q2, ?_, same_reset q1⟩
    rw [List.length_append]
    exact Nat.succ_le_succ la
  · exact ⟨acc, q2, Nat.le_succ_of_le la, q1⟩
end
/-! dicts whose keys are ints -/
section
variable {K : PySem.W.Frag} {σ : L2.St} {H F : Hp} {d : Addr} {kvs : List (Key × V)} {i : Int} {v z : V} {Q : VK} {td ty tx : TE}
theorem g_dnew (hF : Same F H) (q : ∀ p H', Nn F p → Same (upd F p (.dK [])) H' → Q (.ref p) H') : tDNewK σ H Q := fun p hp => q p _ (sFr hF hp) (sUp hF)
theorem g_dIn (q : ty σ H fun y H1 => td σ H1 fun x H2 => ∃ a o, x = .ref a ∧ DGet H2 a y o ∧ Q (.bl o.isSome) H2) : tDIn ty td σ H Q := q
theorem g_dNot (q : ty σ H fun y H1 => td σ H1 fun x H2 => ∃ a o, x = .ref a ∧ DGet H2 a y o ∧ Q (.bl (!o.isSome)) H2) : tDNotIn ty td σ H Q := q
theorem g_dGet (q : td σ H fun x H1 => ty σ H1 fun y H2 => ∃ a v, x = .ref a ∧ DGet H2 a y (some v) ∧ Q v H2) : tDGet td ty σ H Q := q
theorem g_din {A : Option V → Prop} (hF : Same F H) (h : F d = some (.dK kvs)) (q : A (valV kvs (Sum.inl i))) : ∃ a o, V.ref d = .ref a ∧ DGet H a (.int i) o ∧ A o := ⟨d, _, rfl, DGet.k (k := Sum.inl i) (hF _ _ h), q⟩
theorem g_dget {A : V → Prop} (hF : Same F H) (h : F d = some (.dK kvs)) (e : valV kvs (Sum.inl i) = some v) (q : A v) : ∃ a v, V.ref d = .ref a ∧ DGet H a (.int i) (some v) ∧ A v := ⟨d, v, rfl, e ▸ DGet.k (k := Sum.inl i) (hF _ _ h), q⟩
theorem g_dput {A : Hp → Prop} (hF : Same F H) (h : F d = some (.dK kvs)) (hl : kvs.length ≤ 1000) (q : ∀ H', Same (upd F d (.dK (putK kvs (Sum.inl i) v))) H' → A H') : ∃ a H4, V.ref d = .ref a ∧ DPut H a (.int i) v H4 ∧ A H4 :=
  ⟨d, _, rfl, DPut.k (k := Sum.inl i) (hF _ _ h) (Nat.lt_of_le_of_lt hl (by decide)), q _ (sUp hF)⟩
def PopO (Q : VK) (a : Addr) (y z : V) (H : Hp) : Prop := ∃ kvs k, H a = some (.dK kvs) ∧ y = kV k ∧ (∀ v, valV kvs k = some v → Q v (upd H a (.dK (dropK kvs k)))) ∧ (valV kvs k = none → Q z H)
theorem g_dpop2 (q : td σ H fun x H1 => ∃ a, x = .ref a ∧ IsD H1 a ∧ ty σ H1 fun y H2 => tx σ H2 fun z H3 => PopO Q a y z H3) : tDPop2 td ty tx σ H Q := q
theorem g_isd {A : Addr → Prop} (hF : Same F H) (h : F d = some (.dK kvs)) (q : A d) : ∃ a, V.ref d = .ref a ∧ IsD H a ∧ A a := ⟨d, rfl, .inl ⟨kvs, .inl (hF _ _ h)⟩, q⟩
theorem g_pop (hF : Same F H) (h : F d = some (.dK kvs)) (q : ∀ v H', Same (upd F d (.dK (dropK kvs (Sum.inl i)))) H' → Q v H') : PopO Q d (.int i) z H := by
  refine ⟨kvs, Sum.inl i, hF _ _ h, rfl, fun v e => q v _ (sUp hF), fun e => q z _ ?_⟩
  have e2 : dropK kvs (Sum.inl i) = kvs := dropK_no (valV_not e)
  rw [e2, upd_id h]
  exact hF
def Pop1 (Q : VK) (a : Addr) (y : V) (H : Hp) : Prop := ∃ kvs k v, H a = some (.dK kvs) ∧ y = kV k ∧ valV kvs k = some v ∧ Q v (upd H a (.dK (dropK kvs k)))
theorem g_dpop1 (q : td σ H fun x H1 => ∃ a, x = .ref a ∧ IsD H1 a ∧ ty σ H1 fun y H2 => Pop1 Q a y H2) : tDPop1 td ty σ H Q := q
theorem g_pop1 (hF : Same F H) (h : F d = some (.dK kvs)) (e : valV kvs (Sum.inl i) = some v) (q : ∀ H', Same (upd F d (.dK (dropK kvs (Sum.inl i)))) H' → Q v H') : Pop1 Q d (.int i) H := ⟨kvs, Sum.inl i, v, hF _ _ h, rfl, e, q _ (sUp hF)⟩
def rSortDI : List V → Hp → VK → Prop := fun xs H Q => ∃ (a : Addr) (kvs : List (Key × V)) (ks : List Int), xs = [.ref a] ∧ Rd H a (.dK kvs) ∧ kvs.map (·.1) = ks.map Sum.inl ∧ ks.length < 64 ∧
    ∀ (ys : List Int) (p : Addr), ys.Perm ks → ys.Pairwise (· ≤ ·) → H p = none → Q (.ref p) (upd H p (.lst (ys.map V.int)))
theorem g_sortD {ks : List Int} (hF : Same F H) (h : F d = some (.dK kvs)) (hk : kvs.map (·.1) = ks.map Sum.inl) (hs : ks.Pairwise (· ≤ ·)) (hl : ks.length < 64) (q : ∀ p H', Nn F p → Same (upd F p (.lst (ks.map V.int))) H' → Q (.ref p) H') : rSortDI [.ref d] H Q := by
  refine ⟨d, kvs, ks, rfl, .inl (hF _ _ h), hk, hl, fun ys p hp ho hn => ?_⟩
  have e := PySem.W.ksm_same hp ho hs
  subst e
  exact q p _ (sFr hF hn) (sUp hF)
end
section
variable {K : PySem.W.Frag} {σ : L2.St} {H F : Hp} {l : Addr} {xs : List V} {y : V} {Q : VK} {to : TE} {ts : TA}
/-! lists that grow; list(xs); all(..) -/
def AppO (Q : VK) (x : V) (vs : List V) (H : Hp) : Prop := rAppend x vs H Q
theorem g_bm {T : String} {r : V → List V → Hp → VK → Prop} (q : to σ H fun x H1 => tyV K T x H1 ∧ ts σ H1 fun xs H2 => r x xs H2 Q) : tBM K T r to ts σ H Q := q
theorem g_bm0 {T : String} {r : V → List V → Hp → VK → Prop} (q : to σ H fun x H1 => tyV K T x H1 ∧ r x [] H1 Q) : tBM0 K T r to σ H Q := q
theorem g_tyL {A : Prop} (hF : Same F H) (h : F l = some (.lst xs)) (q : A) : tyV K "list" (.ref l) H ∧ A := ⟨.inl ⟨rfl, xs, .inl (.inl (hF _ _ h))⟩, q⟩
theorem g_app (hF : Same F H) (h : F l = some (.lst xs)) (hl : xs.length ≤ 1000) (q : ∀ H', Same (upd F l (.lst (xs ++ [y]))) H' → Q .non H') : rAppend (.ref l) [y] H Q := ⟨l, xs, y, rfl, rfl, hF _ _ h, Nat.lt_of_le_of_lt hl (by decide), q _ (sUp hF)⟩
theorem g_listOf (hF : Same F H) (h : SqL K F l xs) (q : ∀ p H', Nn F p → Same (upd F p (.lst xs)) H' → Q (.ref p) H') : rListOf K [.ref l] H Q := ⟨l, xs, rfl, .inl (Same.seq hF h), fun p hp => q p _ (sFr hF hp) (sUp hF)⟩
theorem g_all {bs : List Bool} (hF : Same F H) (h : F l = some (.lst (bs.map V.bl))) (q : Q (.bl (bs.all id)) H) : rAll K [.ref l] H Q := ⟨l, bs, rfl, .inl (.inl (hF _ _ h)), q⟩
end
/-! data above -/
mutual
theorem dp_mono {K : PySem.W.Frag} {F H : Hp} (e : Same F H) : ∀ {v : V} {d : PyData}, Dp K F v d → Dp K H v d
  | _, _, .non => .non
  | _, _, .bl b => .bl b
  | _, _, .int i => .int i
  | _, _, .str x => .str x
  | _, _, .lst h t => .lst (Same.seq e h) (dpa_mono e t)
  | _, _, .tup h t => .tup (sSqT e h) (dpa_mono e t)
theorem dpa_mono {K : PySem.W.Frag} {F H : Hp} (e : Same F H) : ∀ {vs : List V} {ds : List PyData}, DpAll K F vs ds → DpAll K H vs ds
  | _, _, .nil => .nil
  | _, _, .cons h t => .cons (dp_mono e h) (dpa_mono e t)
end
theorem dpa_ints {K : PySem.W.Frag} {F : Hp} : ∀ (ns : List Int), DpAll K F (ns.map V.int) (ns.map PyData.int)
  | [] => .nil
  | n :: r => .cons (.int n) (dpa_ints r)
theorem upd_comm {F : Hp} {p q : Addr} {o u : HO} (h : p ≠ q) : upd (upd F p o) q u = upd (upd F q u) p o := by
  funext b
  by_cases e1 : b = p
  · subst e1
    rw [upd_ne h, upd_same, upd_same]
  · by_cases e2 : b = q
    · subst e2
      rw [upd_same, upd_ne e1, upd_same]
    · rw [upd_ne e2, upd_ne e1, upd_ne e1, upd_ne e2]
end Rp
namespace Rp
open PySem PySem.Spec PyProof.Rows L2
theorem g_sdput {td ty tv : TE} {σ : L2.St} {H : Hp} {nN nB nC : L2.St → Hp → Prop} {nR : VK} (q : tv σ H fun v H1 => td σ H1 fun x H2 => ty σ H2 fun y H3 => ∃ a H4, x = .ref a ∧ DPut H3 a y v H4 ∧ nN σ H4) : sDPut td ty tv (Ends.mk nN nR nB nC) σ H := q
end Rp
namespace Rp
open PySem PySem.Spec PyProof.Rows L2
theorem lay_ints : ∀ (ns : List Int), PyData.canLayAll0 (ns.map PyData.int) = true
  | [] => rfl
  | n :: r => by
    rw [List.map_cons, PyData.canLayAll0, lay_ints r]
    rfl
theorem depth_ints : ∀ (ns : List Int), PyData.depthAll (ns.map PyData.int) = 0
  | [] => rfl
  | n :: r => by
    rw [List.map_cons, PyData.depthAll, depth_ints r]
    rfl
theorem shaped_ints (ns : List Int) : SeqAt.shaped (.list (ns.map PyData.int)) = true := by
  unfold SeqAt.shaped
  rw [PyData.canLay0, lay_ints, PyData.depth, depth_ints]
  rfl
end Rp
namespace Rp
open PySem PySem.Spec PyProof.Rows L2
theorem sh_lay {d : PyData} (s : SeqAt.shaped d = true) : d.canLay0 = true := by
  unfold SeqAt.shaped at s
  exact (Bool.and_eq_true_iff.mp s).1
theorem eqv_self {d : PyData} (s : SeqAt.shaped d = true) : PyData.eqv d d = true := SeqAt.eqv_refl d (sh_lay s)
theorem g_eqSame {K : PySem.W.Frag} {H : Hp} {x y : V} {Q : VK} {d : PyData} (h1 : Dp K H x d) (h2 : Dp K H y d) (s1 : SeqAt.shaped d = true) (q : Q (.bl true) H) : rEqD K x y H Q := g_eqD h1 h2 s1 s1 (by rw [eqv_self s1]; exact q)
theorem g_neSame {K : PySem.W.Frag} {H : Hp} {x y : V} {Q : VK} {d : PyData} (h1 : Dp K H x d) (h2 : Dp K H y d) (s1 : SeqAt.shaped d = true) (q : Q (.bl false) H) : rNeD K x y H Q := g_neD h1 h2 s1 s1 (by rw [eqv_self s1]; exact q)
end Rp

namespace Rq
open PySem PySem.Spec PyProof.Rows L2 Rp
/-! the text by places -/
def top (i : Nat) : Stmt := PySem.Challenge.pw_ringpost_k02_who_sends.main.body.getD i (.Pass ⟨0, 0, 0, 0⟩)
abbrev s_is_whole : Stmt := (top 12)
abbrev s_Sender_init : Stmt := (inClass (top 14) 0)
abbrev s_Sender_span : Stmt := (inClass (top 14) 1)
abbrev s_Sender_sent : Stmt := (inClass (top 14) 2)
abbrev s_Sender_heard : Stmt := (inClass (top 14) 3)
abbrev s_Sender_may_send : Stmt := (inClass (top 14) 5)
abbrev s_l_at : Stmt := (top 16)
abbrev s_l_mixed : Stmt := (top 17)
abbrev s_l_whole : Stmt := (top 18)
abbrev s_l_word : Stmt := (top 19)
abbrev s_l_said : Stmt := (top 20)
abbrev s_l_span : Stmt := (top 21)
abbrev s_law : Stmt := (top 22)
abbrev N_is_whole : List Str := ["thing"]
theorem sc_is_whole : FnScope N_is_whole ["thing"] (defScope s_is_whole) := ⟨rfl, rfl, rfl, by decide +kernel, rfl, by decide +kernel, by decide +kernel⟩
abbrev N_Sender_init : List Str := ["self", "window", "ring", "many"]
theorem sc_Sender_init : FnScope N_Sender_init ["self", "window", "ring", "many"] (defScope s_Sender_init) := ⟨rfl, rfl, rfl, by decide +kernel, rfl, by decide +kernel, by decide +kernel⟩
abbrev N_Sender_span : List Str := ["self"]
theorem sc_Sender_span : FnScope N_Sender_span ["self"] (defScope s_Sender_span) := ⟨rfl, rfl, rfl, by decide +kernel, rfl, by decide +kernel, by decide +kernel⟩
abbrev N_Sender_sent : List Str := ["self", "k"]
theorem sc_Sender_sent : FnScope N_Sender_sent ["self", "k"] (defScope s_Sender_sent) := ⟨rfl, rfl, rfl, by decide +kernel, rfl, by decide +kernel, by decide +kernel⟩
abbrev N_Sender_heard : List Str := ["self", "number", "step"]
theorem sc_Sender_heard : FnScope N_Sender_heard ["self", "number"] (defScope s_Sender_heard) := ⟨rfl, rfl, rfl, by decide +kernel, rfl, by decide +kernel, by decide +kernel⟩
abbrev N_Sender_may_send : List Str := ["self", "k"]
theorem sc_Sender_may_send : FnScope N_Sender_may_send ["self", "k"] (defScope s_Sender_may_send) := ⟨rfl, rfl, rfl, by decide +kernel, rfl, by decide +kernel, by decide +kernel⟩
abbrev N_l_at : List Str := ["_law_script", "_law_k"]
theorem sc_l_at : FnScope N_l_at ["_law_script", "_law_k"] (defScope s_l_at) := ⟨rfl, rfl, rfl, by decide +kernel, rfl, by decide +kernel, by decide +kernel⟩
abbrev N_l_mixed : List Str := ["_law_cell", "_law_k"]
theorem sc_l_mixed : FnScope N_l_mixed ["_law_cell", "_law_k"] (defScope s_l_mixed) := ⟨rfl, rfl, rfl, by decide +kernel, rfl, by decide +kernel, by decide +kernel⟩
abbrev N_l_whole : List Str := ["_law_thing"]
theorem sc_l_whole : FnScope N_l_whole ["_law_thing"] (defScope s_l_whole) := ⟨rfl, rfl, rfl, by decide +kernel, rfl, by decide +kernel, by decide +kernel⟩
abbrev N_l_word : List Str := ["_law_error", "_law_word_here", "_law_is_other"]
theorem sc_l_word : FnScope N_l_word ["_law_error"] (defScope s_l_word) := ⟨rfl, rfl, rfl, by decide +kernel, rfl, by decide +kernel, by decide +kernel⟩
abbrev N_l_said : List Str := ["_law_sender", "_law_k", "_law_error"]
theorem sc_l_said : FnScope N_l_said ["_law_sender", "_law_k"] (defScope s_l_said) := ⟨rfl, rfl, rfl, by decide +kernel, rfl, by decide +kernel, by decide +kernel⟩
abbrev N_l_span : List Str := ["_law_sender", "_law_base", "_law_top", "_law_found"]
theorem sc_l_span : FnScope N_l_span ["_law_sender", "_law_base", "_law_top"] (defScope s_l_span) := ⟨rfl, rfl, rfl, by decide +kernel, rfl, by decide +kernel, by decide +kernel⟩
abbrev N_law : List Str := ["_law_script", "_law_one", "_law_window", "_law_ring", "_law_many", "_law_sender", "_law_other", "_law_base", "_law_top", "_law_cell", "_law_more", "_law_some", "_law_k", "_law_found", "_law_number", "_law_step", "_law_odd"]
theorem sc_law : FnScope N_law ["_law_script"] (defScope s_law) := ⟨rfl, rfl, rfl, by decide +kernel, rfl, by decide +kernel, by decide +kernel⟩
/-- where the defs and classes stand -/
structure Ad where
  ePostError : Addr
  eBadBounds : Addr
  eBadRing : Addr
  eBadTexts : Addr
  eBadStep : Addr
  eNotNow : Addr
  eNoLetter : Addr
  eSafe : Addr
  eNoLine : Addr
  cSender : Addr
  f_is_whole : Addr
  f_Sender_init : Addr
  f_Sender_span : Addr
  f_Sender_sent : Addr
  f_Sender_heard : Addr
  f_Sender_may_send : Addr
  f_l_at : Addr
  f_l_mixed : Addr
  f_l_whole : Addr
  f_l_word : Addr
  f_l_said : Addr
  f_l_span : Addr
  f_law : Addr
inductive Er where
  | NotNow
def erA (a : Ad) : Er → Addr
  | .NotNow => a.eNotNow
def isPostError : Er → Bool
  | .NotNow => true
def isBadBounds : Er → Bool
  | .NotNow => false
def isBadRing : Er → Bool
  | .NotNow => false
def isBadTexts : Er → Bool
  | .NotNow => false
def isBadStep : Er → Bool
  | .NotNow => false
def isNotNow : Er → Bool
  | .NotNow => true
def isNoLetter : Er → Bool
  | .NotNow => false
def isSafe : Er → Bool
  | .NotNow => false
def isNoLine : Er → Bool
  | .NotNow => false
def flSender (v0 v1 v2 v3 v4 : V) : List (Str × V) := [(("_window" : Str), v0), (("_ring" : Str), v1), (("_many" : Str), v2), (("_base" : Str), v3), (("_top" : Str), v4)]
theorem flSender_g_window {v0 v1 v2 v3 v4 : V} : (flSender v0 v1 v2 v3 v4).lookup ("_window" : Str) = some v0 := by
  unfold flSender
  exact Rp.lk_hit
theorem flSender_p_window {v0 v1 v2 v3 v4 y : V} : putF ("_window" : Str) y (flSender v0 v1 v2 v3 v4) = flSender y v1 v2 v3 v4 := by
  unfold flSender
  rw [Rp.pt_hit]
theorem flSender_g_ring {v0 v1 v2 v3 v4 : V} : (flSender v0 v1 v2 v3 v4).lookup ("_ring" : Str) = some v1 := by
  unfold flSender
  rw [Rp.lk_miss (by decide +kernel)]
  exact Rp.lk_hit
theorem flSender_p_ring {v0 v1 v2 v3 v4 y : V} : putF ("_ring" : Str) y (flSender v0 v1 v2 v3 v4) = flSender v0 y v2 v3 v4 := by
  unfold flSender
  rw [Rp.pt_miss (by decide +kernel)]
  rw [Rp.pt_hit]
theorem flSender_g_many {v0 v1 v2 v3 v4 : V} : (flSender v0 v1 v2 v3 v4).lookup ("_many" : Str) = some v2 := by
  unfold flSender
  rw [Rp.lk_miss (by decide +kernel)]
  rw [Rp.lk_miss (by decide +kernel)]
  exact Rp.lk_hit
theorem flSender_p_many {v0 v1 v2 v3 v4 y : V} : putF ("_many" : Str) y (flSender v0 v1 v2 v3 v4) = flSender v0 v1 y v3 v4 := by
  unfold flSender
  rw [Rp.pt_miss (by decide +kernel)]
  rw [Rp.pt_miss (by decide +kernel)]
  rw [Rp.pt_hit]
theorem flSender_g_base {v0 v1 v2 v3 v4 : V} : (flSender v0 v1 v2 v3 v4).lookup ("_base" : Str) = some v3 := by
  unfold flSender
  rw [Rp.lk_miss (by decide +kernel)]
  rw [Rp.lk_miss (by decide +kernel)]
  rw [Rp.lk_miss (by decide +kernel)]
  exact Rp.lk_hit
theorem flSender_p_base {v0 v1 v2 v3 v4 y : V} : putF ("_base" : Str) y (flSender v0 v1 v2 v3 v4) = flSender v0 v1 v2 y v4 := by
  unfold flSender
  rw [Rp.pt_miss (by decide +kernel)]
  rw [Rp.pt_miss (by decide +kernel)]
  rw [Rp.pt_miss (by decide +kernel)]
  rw [Rp.pt_hit]
theorem flSender_g_top {v0 v1 v2 v3 v4 : V} : (flSender v0 v1 v2 v3 v4).lookup ("_top" : Str) = some v4 := by
  unfold flSender
  rw [Rp.lk_miss (by decide +kernel)]
  rw [Rp.lk_miss (by decide +kernel)]
  rw [Rp.lk_miss (by decide +kernel)]
  rw [Rp.lk_miss (by decide +kernel)]
  exact Rp.lk_hit
theorem flSender_p_top {v0 v1 v2 v3 v4 y : V} : putF ("_top" : Str) y (flSender v0 v1 v2 v3 v4) = flSender v0 v1 v2 v3 y := by
  unfold flSender
  rw [Rp.pt_miss (by decide +kernel)]
  rw [Rp.pt_miss (by decide +kernel)]
  rw [Rp.pt_miss (by decide +kernel)]
  rw [Rp.pt_miss (by decide +kernel)]
  rw [Rp.pt_hit]
theorem flSender_nspan {v0 v1 v2 v3 v4 : V} : (flSender v0 v1 v2 v3 v4).lookup ("span" : Str) = none := by
  unfold flSender
  rw [Rp.lk_miss (by decide +kernel)]
  rw [Rp.lk_miss (by decide +kernel)]
  rw [Rp.lk_miss (by decide +kernel)]
  rw [Rp.lk_miss (by decide +kernel)]
  rw [Rp.lk_miss (by decide +kernel)]
  rfl
theorem flSender_nsent {v0 v1 v2 v3 v4 : V} : (flSender v0 v1 v2 v3 v4).lookup ("sent" : Str) = none := by
  unfold flSender
  rw [Rp.lk_miss (by decide +kernel)]
  rw [Rp.lk_miss (by decide +kernel)]
  rw [Rp.lk_miss (by decide +kernel)]
  rw [Rp.lk_miss (by decide +kernel)]
  rw [Rp.lk_miss (by decide +kernel)]
  rfl
theorem flSender_nheard {v0 v1 v2 v3 v4 : V} : (flSender v0 v1 v2 v3 v4).lookup ("heard" : Str) = none := by
  unfold flSender
  rw [Rp.lk_miss (by decide +kernel)]
  rw [Rp.lk_miss (by decide +kernel)]
  rw [Rp.lk_miss (by decide +kernel)]
  rw [Rp.lk_miss (by decide +kernel)]
  rw [Rp.lk_miss (by decide +kernel)]
  rfl
theorem flSender_n_may_send {v0 v1 v2 v3 v4 : V} : (flSender v0 v1 v2 v3 v4).lookup ("_may_send" : Str) = none := by
  unfold flSender
  rw [Rp.lk_miss (by decide +kernel)]
  rw [Rp.lk_miss (by decide +kernel)]
  rw [Rp.lk_miss (by decide +kernel)]
  rw [Rp.lk_miss (by decide +kernel)]
  rw [Rp.lk_miss (by decide +kernel)]
  rfl
theorem flSender_mk0 {v0 : V} : putF ("_window" : Str) v0 [] = [(("_window" : Str), v0)] := by rw [Rp.pt_nil]
theorem flSender_mk1 {v0 v1 : V} : putF ("_ring" : Str) v1 [(("_window" : Str), v0)] = [(("_window" : Str), v0), (("_ring" : Str), v1)] := by rw [Rp.pt_miss (by decide +kernel), Rp.pt_nil]
theorem flSender_mk2 {v0 v1 v2 : V} : putF ("_many" : Str) v2 [(("_window" : Str), v0), (("_ring" : Str), v1)] = [(("_window" : Str), v0), (("_ring" : Str), v1), (("_many" : Str), v2)] := by rw [Rp.pt_miss (by decide +kernel), Rp.pt_miss (by decide +kernel), Rp.pt_nil]
theorem flSender_mk3 {v0 v1 v2 v3 : V} : putF ("_base" : Str) v3 [(("_window" : Str), v0), (("_ring" : Str), v1), (("_many" : Str), v2)] = [(("_window" : Str), v0), (("_ring" : Str), v1), (("_many" : Str), v2), (("_base" : Str), v3)] := by rw [Rp.pt_miss (by decide +kernel), Rp.pt_miss (by decide +kernel), Rp.pt_miss (by decide +kernel), Rp.pt_nil]
theorem flSender_mk4 {v0 v1 v2 v3 v4 : V} : putF ("_top" : Str) v4 [(("_window" : Str), v0), (("_ring" : Str), v1), (("_many" : Str), v2), (("_base" : Str), v3)] = [(("_window" : Str), v0), (("_ring" : Str), v1), (("_many" : Str), v2), (("_base" : Str), v3), (("_top" : Str), v4)] := by rw [Rp.pt_miss (by decide +kernel), Rp.pt_miss (by decide +kernel), Rp.pt_miss (by decide +kernel), Rp.pt_miss (by decide +kernel), Rp.pt_nil]
theorem flSender_mk {v0 v1 v2 v3 v4 : V} : putF ("_top" : Str) v4 (putF ("_base" : Str) v3 (putF ("_many" : Str) v2 (putF ("_ring" : Str) v1 (putF ("_window" : Str) v0 ([]))))) = flSender v0 v1 v2 v3 v4 := by
  rw [flSender_mk0, flSender_mk1, flSender_mk2, flSender_mk3, flSender_mk4]
  rfl
structure Txt (K : PySem.W.Frag) (mg : Str → Option Value) (a : Ad) : Prop where
  n_ValueError : mg "ValueError" = none
  n_bool : mg "bool" = none
  n_int : mg "int" = none
  n_isinstance : mg "isinstance" = none
  n_len : mg "len" = none
  n_max : mg "max" = none
  n_tuple : mg "tuple" = none
  n_type : mg "type" = none
  g_Sender : mg "Sender" = some (.ref a.cSender)
  c_Sender : Cls K a.cSender
  mk_Sender : Mk K a.cSender a.f_Sender_init
  na_Sender_window : NoAttr K a.cSender "_window"
  na_Sender_ring : NoAttr K a.cSender "_ring"
  na_Sender_many : NoAttr K a.cSender "_many"
  na_Sender_base : NoAttr K a.cSender "_base"
  na_Sender_top : NoAttr K a.cSender "_top"
  mt_Sender_span : Meth K a.cSender "span" a.f_Sender_span
  mt_Sender_sent : Meth K a.cSender "sent" a.f_Sender_sent
  mt_Sender_heard : Meth K a.cSender "heard" a.f_Sender_heard
  mt_Sender_may_send : Meth K a.cSender "_may_send" a.f_Sender_may_send
  g_PostError : mg "PostError" = some (.ref a.ePostError)
  g_BadBounds : mg "BadBounds" = some (.ref a.eBadBounds)
  g_BadRing : mg "BadRing" = some (.ref a.eBadRing)
  g_BadTexts : mg "BadTexts" = some (.ref a.eBadTexts)
  g_BadStep : mg "BadStep" = some (.ref a.eBadStep)
  g_NotNow : mg "NotNow" = some (.ref a.eNotNow)
  g_NoLetter : mg "NoLetter" = some (.ref a.eNoLetter)
  g_Safe : mg "Safe" = some (.ref a.eSafe)
  g_NoLine : mg "NoLine" = some (.ref a.eNoLine)
  x_NotNow : PySem.W.excIn K a.eNotNow [.type "ValueError", .type "Exception", .type "BaseException", .type "object"] "ValueError.__new__" = true
  k_NotNow : PySem.W.keepIn K (.ref a.eNotNow) = true
  b_NotNow : PySem.W.subIn K (.ref a.eNotNow) (.type "BaseException") = some true
  t_NotNow : PySem.W.typeIn K (.ref a.eNotNow) = some (.type "type")
  ec : ∀ er, ExcC K (erA a er)
  is_PostError : ∀ er, PySem.W.kitOne K (.ref (erA a er)) (.ref a.ePostError) = some (isPostError er)
  is_BadBounds : ∀ er, PySem.W.kitOne K (.ref (erA a er)) (.ref a.eBadBounds) = some (isBadBounds er)
  is_BadRing : ∀ er, PySem.W.kitOne K (.ref (erA a er)) (.ref a.eBadRing) = some (isBadRing er)
  is_BadTexts : ∀ er, PySem.W.kitOne K (.ref (erA a er)) (.ref a.eBadTexts) = some (isBadTexts er)
  is_BadStep : ∀ er, PySem.W.kitOne K (.ref (erA a er)) (.ref a.eBadStep) = some (isBadStep er)
  is_NotNow : ∀ er, PySem.W.kitOne K (.ref (erA a er)) (.ref a.eNotNow) = some (isNotNow er)
  is_NoLetter : ∀ er, PySem.W.kitOne K (.ref (erA a er)) (.ref a.eNoLetter) = some (isNoLetter er)
  is_Safe : ∀ er, PySem.W.kitOne K (.ref (erA a er)) (.ref a.eSafe) = some (isSafe er)
  is_NoLine : ∀ er, PySem.W.kitOne K (.ref (erA a er)) (.ref a.eNoLine) = some (isNoLine er)
  is_ValueError : ∀ er, PySem.W.kitOne K (.ref (erA a er)) (.type "ValueError") = some true
  ex_PostError : ∀ er, PySem.W.exmOne K (.ref (erA a er)) (.ref a.ePostError) = some (isPostError er)
  g_is_whole : mg "is_whole" = some (.ref a.f_is_whole)
  k_is_whole : PySem.W.keepIn K (.ref a.f_is_whole) = true
  g_l_at : mg "_law_at" = some (.ref a.f_l_at)
  k_l_at : PySem.W.keepIn K (.ref a.f_l_at) = true
  g_l_mixed : mg "_law_mixed" = some (.ref a.f_l_mixed)
  k_l_mixed : PySem.W.keepIn K (.ref a.f_l_mixed) = true
  g_l_whole : mg "_law_whole" = some (.ref a.f_l_whole)
  k_l_whole : PySem.W.keepIn K (.ref a.f_l_whole) = true
  g_l_word : mg "_law_word" = some (.ref a.f_l_word)
  k_l_word : PySem.W.keepIn K (.ref a.f_l_word) = true
  g_l_said : mg "_law_said" = some (.ref a.f_l_said)
  k_l_said : PySem.W.keepIn K (.ref a.f_l_said) = true
  g_l_span : mg "_law_span" = some (.ref a.f_l_span)
  k_l_span : PySem.W.keepIn K (.ref a.f_l_span) = true

/-! what the sides are -/
structure Sn where
  w : Int
  r : Int
  m : Int
  b : Int
  t : Int
abbrev snd (a : Ad) (dx : Addr) (s : Sn) : HO := .ins a.cSender dx (flSender (.int s.w) (.int s.r) (.int s.m) (.int s.b) (.int s.t))
def may (s : Sn) : V → Bool
  | .int k => decide (s.b ≤ k) && decide (k ≤ s.t) && (decide (k < s.b + s.w) && decide (k < s.m))
  | _ => false
def sentS (s : Sn) (k : Int) : Sn := if k = s.t then { s with t := k + 1 } else s
def hear (s : Sn) (n : Int) : Sn := if s.b + (n - s.b) % s.r ≤ s.t then { s with b := s.b + (n - s.b) % s.r } else s
abbrev KV2 := V → Hp → Prop
abbrev KX2 := Value → Option Addr → Hp → Prop
def sp_is_whole (K : PySem.W.Frag) (a : Ad) : Sp := Rp.spG fun vs F k _ => ∃ x, vs = [x] ∧ Rp.Kd F x ∧ k (.bl (Rp.isInt x)) F
def sp_Sender_init (K : PySem.W.Frag) (a : Ad) : Sp := Rp.spG fun vs F k _ => ∃ p w r m dx, vs = [.ref p, .int w, .int r, .int m] ∧ F p = some (.ins a.cSender dx []) ∧ k .non (upd F p (snd a dx ⟨w, r, m, 0, 0⟩))
def sp_Sender_span (K : PySem.W.Frag) (a : Ad) : Sp := Rp.spG fun vs F k _ => ∃ p dx s, vs = [.ref p] ∧ F p = some (snd a dx s) ∧ ∀ q, F q = none → k (.ref q) (upd F q (.tup [.int s.b, .int s.t]))
def sp_Sender_may_send (K : PySem.W.Frag) (a : Ad) : Sp := Rp.spG fun vs F k _ => ∃ p x dx s, vs = [.ref p, x] ∧ F p = some (snd a dx s) ∧ Rp.Kd F x ∧ k (.bl (may s x)) F
def sp_Sender_sent (K : PySem.W.Frag) (a : Ad) : Sp := Rp.spG fun vs F k e => ∃ p x dx s, vs = [.ref p, x] ∧ F p = some (snd a dx s) ∧ Rp.Kd F x ∧ 0 < s.r ∧ (∀ i, x = .int i → may s x = true → k (.int (i % s.r)) (upd F p (snd a dx (sentS s i)))) ∧ (may s x = false → e (.ref a.eNotNow) none F)
def sp_Sender_heard (K : PySem.W.Frag) (a : Ad) : Sp := Rp.spG fun vs F k _ => ∃ p n dx s, vs = [.ref p, .int n] ∧ F p = some (snd a dx s) ∧ 0 < s.r ∧ k .non (upd F p (snd a dx (hear s n)))
def sp_l_at (K : PySem.W.Frag) (a : Ad) : Sp := Rp.spG fun vs F k _ => ∃ p i ns, vs = [.ref p, .int i] ∧ SqL K F p (ns.map V.int) ∧ 0 ≤ i ∧ k (.int (Rp.cell ns i)) F
def sp_l_mixed (K : PySem.W.Frag) (a : Ad) : Sp := Rp.spG fun vs F k _ => ∃ c i, vs = [.int c, .int i] ∧ 0 ≤ i ∧ i ≤ 100 ∧ k (.int (Rp.mixed c i)) F
def sp_l_whole (K : PySem.W.Frag) (a : Ad) : Sp := Rp.spG fun vs F k _ => ∃ x, vs = [x] ∧ Rp.Kd F x ∧ k (.bl (Rp.isInt x)) F
def sp_l_word (K : PySem.W.Frag) (a : Ad) (er : Er) (eA : Addr) : Sp := Rp.spG fun vs F k _ => ∃ z : Unit, vs = [.ref eA] ∧ k (.str "now") F
def sp_l_said (K : PySem.W.Frag) (a : Ad) : Sp := Rp.spG fun vs F k _ => ∃ p x dx s, vs = [.ref p, x] ∧ F p = some (snd a dx s) ∧ Rp.Kd F x ∧ 0 < s.r ∧
  (∀ i, x = .int i → may s x = true → ∀ q, F q = none → k (.ref q) (upd (upd F p (snd a dx (sentS s i))) q (.tup [.str "told", .int (i % s.r)]))) ∧ (may s x = false → ∀ q, F q = none → k (.ref q) (upd F q (.tup [.str "refused", .str "now"])))
def sp_l_span (K : PySem.W.Frag) (a : Ad) : Sp := Rp.spG fun vs F k _ => ∃ p b t dx s, vs = [.ref p, .int b, .int t] ∧ F p = some (snd a dx s) ∧ k (.bl (decide (s.b = b) && decide (s.t = t))) F
def sp_law (K : PySem.W.Frag) (a : Ad) : Sp := Rp.spLaw K

def t_is_whole (K : PySem.W.Frag) (a : Ad) : TS := tRet (tOp Rp.rIT (tCB (rTyp K) (tCons (tVar 0) (tNil))) (tC (.ty "int")))
def t_Sender_init (K : PySem.W.Frag) (a : Ad) : TS := tSeq (sFld K (tVar 0) (tVar 1) "_window") (tSeq (sFld K (tVar 0) (tVar 2) "_ring") (tSeq (sFld K (tVar 0) (tVar 3) "_many") (tSeq (sFld K (tVar 0) (tC (.int 0)) "_base") (sFld K (tVar 0) (tC (.int 0)) "_top"))))
def t_Sender_span (K : PySem.W.Frag) (a : Ad) : TS := tRet (tTup (tCons (tFld K (tVar 0) "_base") (tCons (tFld K (tVar 0) "_top") (tNil))))
def t_Sender_sent (K : PySem.W.Frag) (a : Ad) (E : XK) : TS := tSeq (tIfS (tNot (tB (tMeth a.cSender "_may_send" (sp_Sender_may_send K a) [] E0 (tVar 0) (tCons (tVar 1) (tNil))))) (Rp.tRaiseC a.eNotNow E) (tNext)) (tSeq (tIfS (tTest (tOp rEq (tVar 1) (tFld K (tVar 0) "_top"))) (sFld K (tVar 0) (tOp (rI0 fun i j => .int (i + j)) (tVar 1) (tC (.int 1))) "_top") (tNext)) (tRet (tOp (rI (fun _ j => 0 < j) fun i j => .int (i % j)) (tVar 1) (tFld K (tVar 0) "_ring"))))
def t_Sender_heard (K : PySem.W.Frag) (a : Ad) : TS := tSeq (tAsg (tOp (rI (fun _ j => 0 < j) fun i j => .int (i % j)) (tOp (rI0 fun i j => .int (i - j)) (tVar 1) (tFld K (tVar 0) "_base")) (tFld K (tVar 0) "_ring")) (gName 2)) (tIfS (tTest (tOp (rI0 fun i j => .bl (decide (i ≤ j))) (tOp (rI0 fun i j => .int (i + j)) (tFld K (tVar 0) "_base") (tVar 2)) (tFld K (tVar 0) "_top"))) (sFld K (tVar 0) (tOp (rI0 fun i j => .int (i + j)) (tFld K (tVar 0) "_base") (tVar 2)) "_base") (tNext))
def t_Sender_may_send (K : PySem.W.Frag) (a : Ad) : TS := tSeq (tIfS (tOr (tNot (tB (tCall (sp_is_whole K a) [] E0 (tCons (tVar 1) (tNil))))) (tOr (tTest (tOp (rI0 fun i j => .bl (decide (i < j))) (tVar 1) (tFld K (tVar 0) "_base"))) (tTest (tOp (rI0 fun i j => .bl (decide (j < i))) (tVar 1) (tFld K (tVar 0) "_top"))))) (tRet (tC (.bl false))) (tNext)) (tRet (tAndV (tOp (rI0 fun i j => .bl (decide (i < j))) (tVar 1) (tOp (rI0 fun i j => .int (i + j)) (tFld K (tVar 0) "_base") (tFld K (tVar 0) "_window"))) (tOp (rI0 fun i j => .bl (decide (i < j))) (tVar 1) (tFld K (tVar 0) "_many"))))
def t_l_at (K : PySem.W.Frag) (a : Ad) : TS := tSeq (tIfS (tTest (tOp (rI0 fun i j => .bl (decide (i < j))) (tVar 1) (tCB (Rp.rLen K) (tCons (tVar 0) (tNil))))) (tRet (tOp (rIxL K) (tVar 0) (tVar 1))) (tNext)) (tRet (tC (.int 0)))
def t_l_mixed (K : PySem.W.Frag) (a : Ad) : TS := tRet (tOp (rI (fun _ j => 0 < j) fun i j => .int (i % j)) (tOp (rI0 fun i j => .int (i + j)) (tOp (rI CMul fun i j => .int (i * j)) (tVar 0) (tC (.int 48271))) (tOp (rI CMul fun i j => .int (i * j)) (tOp (rI CMul fun i j => .int (i * j)) (tC (.int 7919)) (tOp (rI0 fun i j => .int (i + j)) (tVar 1) (tC (.int 1)))) (tOp (rI0 fun i j => .int (i + j)) (tVar 1) (tC (.int 3))))) (tC (.int 2147483647)))
def t_l_whole (K : PySem.W.Frag) (a : Ad) : TS := tRet (tAndV (tCB (rIsi K) (tCons (tVar 0) (tCons (tC (.ty "int")) tNil))) (tNotV (tCB (rIsi K) (tCons (tVar 0) (tCons (tC (.ty "bool")) tNil)))))
def b1_l_word (K : PySem.W.Frag) (a : Ad) (er : Er) (eA : Addr) : TS := tAsg (tOp Rp.rCatS (tVar 1) (tOp Rp.rStrRep (tC (.str "x")) (tCB Rp.rInt1 (tCons (tVar 2) (tNil))))) (gName 1)
def b2_l_word (K : PySem.W.Frag) (a : Ad) (er : Er) (eA : Addr) : TS := tAsg (tOp Rp.rCatS (tVar 1) (tOp Rp.rStrRep (tC (.str "x")) (tCB Rp.rInt1 (tCons (tVar 2) (tNil))))) (gName 1)
def t_l_word (K : PySem.W.Frag) (a : Ad) (er : Er) (eA : Addr) : TS := tSeq (tAsg (tOp Rp.rStrRep (tC (.str "now")) (tCB Rp.rInt1 (tCons (tCB (rIsE K (erA a er) eA) (tCons (tVar 0) (tCons (tC (.ref a.eNotNow)) tNil))) (tNil)))) (gName 1)) (tSeq (tFor (iList K (tLst (tCons (tCB (rIsE K (erA a er) eA) (tCons (tVar 0) (tCons (tC (.ref a.eBadBounds)) tNil))) (tCons (tCB (rIsE K (erA a er) eA) (tCons (tVar 0) (tCons (tC (.ref a.eBadRing)) tNil))) (tCons (tCB (rIsE K (erA a er) eA) (tCons (tVar 0) (tCons (tC (.ref a.eBadTexts)) tNil))) (tNil)))))) (gName 2) (b1_l_word K a er eA)) (tSeq (tFor (iList K (tLst (tCons (tCB (rIsE K (erA a er) eA) (tCons (tVar 0) (tCons (tC (.ref a.eBadStep)) tNil))) (tCons (tCB (rIsE K (erA a er) eA) (tCons (tVar 0) (tCons (tC (.ref a.eNoLetter)) tNil))) (tCons (tCB (rIsE K (erA a er) eA) (tCons (tVar 0) (tCons (tC (.ref a.eSafe)) tNil))) (tNil)))))) (gName 2) (b2_l_word K a er eA)) (tRet (tOp Rp.rStrRep (tOp Rp.rCatS (tVar 1) (tOp Rp.rStrRep (tC (.str "x")) (tCB Rp.rInt1 (tCons (tCB (rIsE K (erA a er) eA) (tCons (tVar 0) (tCons (tC (.ref a.eNoLine)) tNil))) (tNil))))) (tCB Rp.rInt1 (tCons (tCB (rIsE K (erA a er) eA) (tCons (tVar 0) (tCons (tC (.ty "ValueError")) tNil))) (tNil)))))))
def b1_l_said (K : PySem.W.Frag) (a : Ad) (W : WX) : TS := tRet (tTup (tCons (tC (.str "told")) (tCons (Rp.tMethS a.cSender "sent" (sp_Sender_sent K a) (WE W) (tVar 0) (tCons (tVar 1) (tNil))) (tNil))))
def b2_l_said (K : PySem.W.Frag) (a : Ad) (eA : Addr) (eC : Value) (eD0 : Option Addr) : TS := fun D σ H => ∃ er : Er, (eC = Value.ref (erA a er) ∧ eD0 = none) ∧ (tRet (tTup (tCons (tC (.str "refused")) (tCons (tCall (sp_l_word K a er eA) [] E0 (tCons (tVar 2) (tNil))) (tNil))))) D σ H
def t_l_said (K : PySem.W.Frag) (a : Ad) : TS := (fun D σ H => b1_l_said K a (wAs K (.ref a.ePostError) 2 (b2_l_said K a) (fun _ _ _ _ => False) D) D σ H)
def t_l_span (K : PySem.W.Frag) (a : Ad) : TS := tSeq (tAsg (tMeth a.cSender "span" (sp_Sender_span K a) [] E0 (tVar 0) (tNil)) (gName 3)) (tRet (tAndV (tCB (rIsi K) (tCons (tVar 3) (tCons (tC (.ty "tuple")) tNil))) (tAndV (tOp (rEqD K) (tVar 3) (tTup (tCons (tVar 1) (tCons (tVar 2) (tNil))))) (tAndV (tCall (sp_l_whole K a) [] E0 (tCons (tOp (rIxT K) (tVar 3) (tC (.int 0))) (tNil))) (tCall (sp_l_whole K a) [] E0 (tCons (tOp (rIxT K) (tVar 3) (tC (.int 1))) (tNil)))))))
def i1_law (K : PySem.W.Frag) (a : Ad) : TS := tIfS (tOr (tTest (tOp (rNeD K) (tVar 13) (tTup (tCons (tC (.str "told")) (tCons (tOp (rI (fun _ j => 0 < j) fun i j => .int (i % j)) (tVar 12) (tVar 3)) (tNil)))))) (tNot (tB (tCall (sp_l_whole K a) [] E0 (tCons (tOp (rIxT K) (tVar 13) (tC (.int 1))) (tNil)))))) (tRet (tC (.bl false))) (tNext)
def i2_law (K : PySem.W.Frag) (a : Ad) : TS := tIfS (tTest (tOp (rNeD K) (tCall (sp_l_said K a) [] E0 (tCons (tVar 5) (tCons (tVar 12) (tNil)))) (tTup (tCons (tC (.str "refused")) (tCons (tC (.str "now")) (tNil)))))) (tRet (tC (.bl false))) (tNext)
def i3_law (K : PySem.W.Frag) (a : Ad) : TS := tIfS (tAnd (tTest (Rp.tChn (tVar 7) (Rp.cCons (rI0 fun i j => .bl (decide (i ≤ j))) (tVar 12) (Rp.cLast (rI0 fun i j => .bl (decide (i ≤ j))) (tVar 8))))) (tAnd (tTest (tOp (rI0 fun i j => .bl (decide (i < j))) (tVar 12) (tOp (rI0 fun i j => .int (i + j)) (tVar 7) (tVar 2)))) (tTest (tOp (rI0 fun i j => .bl (decide (i < j))) (tVar 12) (tVar 4))))) (tSeq (tAsg (tCall (sp_l_said K a) [] E0 (tCons (tVar 5) (tCons (tVar 12) (tNil)))) (gName 13)) (tSeq (i1_law K a) (tAsg (tCB Rp.rMax2 (tCons (tVar 8) (tCons (tOp (rI0 fun i j => .int (i + j)) (tVar 12) (tC (.int 1))) (tNil)))) (gName 8)))) (i2_law K a)
def i4_law (K : PySem.W.Frag) (a : Ad) : TS := tIfS (tTest (tOp rNotN (tMeth a.cSender "heard" (sp_Sender_heard K a) [] E0 (tVar 5) (tCons (tVar 14) (tNil))) (tC .non))) (tRet (tC (.bl false))) (tNext)
def i5_law (K : PySem.W.Frag) (a : Ad) : TS := tIfS (tTest (tOp (rI0 fun i j => .bl (decide (i ≤ j))) (tOp (rI0 fun i j => .int (i + j)) (tVar 7) (tVar 15)) (tVar 8))) (tAsg (tOp (rI0 fun i j => .int (i + j)) (tVar 7) (tVar 15)) (gName 7)) (tNext)
def i6_law (K : PySem.W.Frag) (a : Ad) : TS := tIfS (tTest (tOp (rI0 fun i j => .bl (decide (i < j))) (tOp (rI (fun _ j => 0 < j) fun i j => .int (i % j)) (tVar 9) (tC (.int 3))) (tC (.int 2)))) (tSeq (tAsg (tLst (tCons (tVar 8) (tCons (tOp (rI0 fun i j => .int (i + j)) (tVar 7) (tOp (rI (fun _ j => 0 < j) fun i j => .int (i % j)) (tOp (rI CDiv fun i j => .int (i / j)) (tVar 10) (tC (.int 4))) (tVar 2))) (tCons (tOp (rI0 fun i j => .int (i - j)) (tVar 7) (tC (.int 1))) (tCons (tOp (rI0 fun i j => .int (i + j)) (tVar 7) (tVar 2)) (tCons (tOp (rI0 fun i j => .int (i + j)) (tVar 8) (tC (.int 1))) (tCons (tVar 4) (tNil)))))))) (gName 11)) (tSeq (tAsg (tOp (rIxL K) (tVar 11) (tOp (rIxL K) (tLst (tCons (tC (.int 0)) (tCons (tC (.int 0)) (tCons (tC (.int 1)) (tCons (tC (.int 1)) (tCons (tC (.int 2)) (tCons (tC (.int 3)) (tCons (tC (.int 4)) (tCons (tC (.int 5)) (tNil)))))))))) (tOp (rI (fun _ j => 0 < j) fun i j => .int (i % j)) (tVar 10) (tC (.int 8))))) (gName 12)) (i3_law K a))) (tSeq (tAsg (tOp (rIxL K) (tLst (tCons (tOp (rI (fun _ j => 0 < j) fun i j => .int (i % j)) (tVar 10) (tVar 3)) (tCons (tOp (rI (fun _ j => 0 < j) fun i j => .int (i % j)) (tOp (rI0 fun i j => .int (i + j)) (tVar 7) (tOp (rI (fun _ j => 0 < j) fun i j => .int (i % j)) (tOp (rI CDiv fun i j => .int (i / j)) (tVar 10) (tC (.int 5))) (tOp (rI0 fun i j => .int (i + j)) (tOp (rI0 fun i j => .int (i - j)) (tVar 8) (tVar 7)) (tC (.int 1))))) (tVar 3)) (tNil)))) (tOp (rI (fun _ j => 0 < j) fun i j => .int (i % j)) (tOp (rI CDiv fun i j => .int (i / j)) (tOp (rI (fun _ j => 0 < j) fun i j => .int (i % j)) (tVar 10) (tC (.int 5))) (tC (.int 2))) (tC (.int 2)))) (gName 14)) (tSeq (tAsg (tOp (rI (fun _ j => 0 < j) fun i j => .int (i % j)) (tOp (rI0 fun i j => .int (i - j)) (tVar 14) (tVar 7)) (tVar 3)) (gName 15)) (tSeq (i4_law K a) (i5_law K a))))
def i7_law (K : PySem.W.Frag) (a : Ad) : TS := tIfS (tAnd (tTest (tOp (rI0 fun i j => .bl (decide (j < i))) (tOp (rI (fun _ j => 0 < j) fun i j => .int (i % j)) (tOp (rI CDiv fun i j => .int (i / j)) (tVar 9) (tC (.int 24))) (tC (.int 3))) (tC (.int 0)))) (tNot (tB (tCall (sp_l_span K a) [] E0 (tCons (tVar 5) (tCons (tVar 7) (tCons (tVar 8) (tNil)))))))) (tRet (tC (.bl false))) (tNext)
def b1_law (K : PySem.W.Frag) (a : Ad) : TS := tSeq (tAsg (tOp (rI CDiv fun i j => .int (i / j)) (tVar 9) (tC (.int 3))) (gName 10)) (tSeq (i6_law K a) (i7_law K a))
def i8_law (K : PySem.W.Frag) (a : Ad) : TS := tIfS (tOr (tTest (tOp (rNeD K) (tCall (sp_l_said K a) [] E0 (tCons (tVar 5) (tCons (tVar 16) (tNil)))) (tTup (tCons (tC (.str "refused")) (tCons (tC (.str "now")) (tNil)))))) (tNot (tB (tCall (sp_l_span K a) [] E0 (tCons (tVar 5) (tCons (tVar 7) (tCons (tVar 8) (tNil)))))))) (tRet (tC (.bl false))) (tNext)
def t_law (K : PySem.W.Frag) (a : Ad) : TS := tSeq (tAsg (tCall (sp_l_mixed K a) [] E0 (tCons (tCall (sp_l_at K a) [] E0 (tCons (tVar 0) (tCons (tC (.int 0)) (tNil)))) (tCons (tC (.int 0)) (tNil)))) (gName 1)) (tSeq (tAsg (tOp (rI0 fun i j => .int (i + j)) (tC (.int 1)) (tOp (rI (fun _ j => 0 < j) fun i j => .int (i % j)) (tVar 1) (tOp (rIxL K) (tLst (tCons (tC (.int 4)) (tCons (tC (.int 20)) (tNil)))) (tOp (rI (fun _ j => 0 < j) fun i j => .int (i % j)) (tOp (rI CDiv fun i j => .int (i / j)) (tVar 1) (tC (.int 20))) (tC (.int 2)))))) (gName 2)) (tSeq (tAsg (tOp (rI0 fun i j => .int (i + j)) (tC (.int 1)) (tOp (rI (fun _ j => 0 < j) fun i j => .int (i % j)) (tCall (sp_l_mixed K a) [] E0 (tCons (tCall (sp_l_at K a) [] E0 (tCons (tVar 0) (tCons (tC (.int 1)) (tNil)))) (tCons (tC (.int 1)) (tNil)))) (tOp (rIxL K) (tLst (tCons (tOp (rI0 fun i j => .int (i + j)) (tVar 2) (tC (.int 4))) (tCons (tC (.int 45)) (tNil)))) (tOp (rI (fun _ j => 0 < j) fun i j => .int (i % j)) (tOp (rI CDiv fun i j => .int (i / j)) (tVar 1) (tC (.int 40))) (tC (.int 2)))))) (gName 3)) (tSeq (tAsg (tOp (rI (fun _ j => 0 < j) fun i j => .int (i % j)) (tCall (sp_l_mixed K a) [] E0 (tCons (tCall (sp_l_at K a) [] E0 (tCons (tVar 0) (tCons (tC (.int 2)) (tNil)))) (tCons (tC (.int 2)) (tNil)))) (tC (.int 31))) (gName 4)) (tSeq (tAsg (tMake a.cSender (sp_Sender_init K a) [] E0 (tCons (tVar 2) (tCons (tVar 3) (tCons (tVar 4) (tNil))))) (gName 5)) (tSeq (tAsg (tMake a.cSender (sp_Sender_init K a) [] E0 (tCons (tVar 2) (tCons (tVar 3) (tCons (tVar 4) (tNil))))) (gName 6)) (tSeq (tAsg (tC (.int 0)) (gName 7)) (tSeq (tAsg (tC (.int 0)) (gName 8)) (tSeq (tIfS (tNot (tB (tCall (sp_l_span K a) [] E0 (tCons (tVar 5) (tCons (tC (.int 0)) (tCons (tC (.int 0)) (tNil))))))) (tRet (tC (.bl false))) (tNext)) (tSeq (tFor (iList K (tSl (rSlL K) (tVar 0) (tPart (tC (.int 3))) (tPart (tC (.int 43))))) (gName 9) (b1_law K a)) (tSeq (tAsg (tOp (rIxL K) (tLst (tCons (tC .non) (tCons (tC (.bl true)) (tCons (tC (.str "0")) (tCons (tLst (tCons (tVar 7) (tNil))) (tCons (tTup (tCons (tVar 7) (tNil))) (tCons (tUn (rU fun i => .int (-i)) (tC (.int 1))) (tCons (tC (.bl false)) (tCons (tOp (rI0 fun i j => .int (i + j)) (tVar 7) (tOp (rI CPow fun i j => .int (i ^ j.toNat)) (tC (.int 10)) (tC (.int 6)))) (tNil)))))))))) (tOp (rI (fun _ j => 0 < j) fun i j => .int (i % j)) (tCall (sp_l_at K a) [] E0 (tCons (tVar 0) (tCons (tC (.int 2)) (tNil)))) (tC (.int 8)))) (gName 16)) (tSeq (i8_law K a) (tRet (tCall (sp_l_span K a) [] E0 (tCons (tVar 6) (tCons (tC (.int 0)) (tCons (tC (.int 0)) (tNil)))))))))))))))))
set_option hygiene false
local macro_rules | `(tactic| walk_at "fact") => `(tactic| (with_reducible first | exact T.c_Sender | exact T.na_Sender_window | exact flSender_g_window | exact flSender_p_window | exact flSender_mk0 | exact T.na_Sender_ring | exact flSender_g_ring | exact flSender_p_ring | exact flSender_mk1 | exact T.na_Sender_many | exact flSender_g_many | exact flSender_p_many | exact flSender_mk2 | exact T.na_Sender_base | exact flSender_g_base | exact flSender_p_base | exact flSender_mk3 | exact T.na_Sender_top | exact flSender_g_top | exact flSender_p_top | exact flSender_mk4 | exact flSender_nspan | exact flSender_nsent | exact flSender_nheard | exact flSender_n_may_send | exact rfl | assumption))
local macro_rules | `(tactic| walk_at "ne") => `(tactic| first | (with_reducible assumption) | (apply Ne.symm; (with_reducible assumption)) | ((with_reducible refine' ne_n ?m1 ?m2); (case m1 => (with_reducible assumption)); (case m2 => walk_at "at")) | (apply Ne.symm; (with_reducible refine' ne_n ?m1 ?m2); (case m1 => (with_reducible assumption)); (case m2 => walk_at "at")) | fail)
local macro_rules | `(tactic| walk_at "at") => `(tactic| first | assumption | exact upd_same | ((with_reducible refine' Eq.trans (upd_ne ?nn) ?_); (case nn => walk_at "ne"); walk_at "at"))
local macro_rules | `(tactic| walk_at "sq") => `(tactic| first | assumption | exact Same.seq (by assumption) (by assumption) | exact sSqT (by assumption) (by assumption) | (refine' sqL_of ?z1 ?z2; (case z1 => assumption); (case z2 => walk_at "at")) | (refine' sqT_of ?z1 ?z2; (case z1 => assumption); (case z2 => walk_at "at")))
local macro_rules | `(tactic| walk_at "side") => `(tactic| first | omega | ((with_reducible show CMul _ _); first | exact Or.inl (by omega) | exact Or.inr (by omega)) | ((with_reducible show CDiv _ _); constructor <;> omega) | ((with_reducible show CPow _ _); refine ⟨?_, ?_, ?_⟩ <;> first | omega | decide) | (show (0 : Int) < _; omega) | decide)
local macro_rules | `(tactic| walk_at "dps") => `(tactic| first | exact DpAll.nil | (refine' DpAll.cons ?y1 ?y2; (case y1 => walk_at "dp"); (case y2 => walk_at "dps")))
local macro_rules | `(tactic| walk_at "dp") => `(tactic| first | exact Dp.int _ | exact Dp.str _ | exact Dp.non | exact Dp.bl _ | (refine' Dp.tup ?x1 ?x2; (case x1 => walk_at "sq"); (case x2 => walk_at "dps")) | (refine' Dp.lst ?x1 ?x2; (case x1 => walk_at "sq"); (case x2 => walk_at "dps")))
local macro_rules | `(tactic| walk_at "grow") => `(tactic| first | assumption | exact Same.refl _ | ((with_reducible refine' Same.trans ?gg (same_new ?nn)); (case nn => assumption); (case gg => walk_at "grow")))
local macro_rules | `(tactic| walk_at "shp") => `(tactic| first | rfl | (simp [SeqAt.shaped, PyData.canLay0, PyData.canLayAll0, PyData.depth, PyData.depthAll] <;> (repeat' apply And.intro) <;> decide +kernel))
local macro_rules | `(tactic| walk_at "rd1") => `(tactic| first
  | ((with_reducible refine' g_var ?hh ?_); (case hh => first | exact rfl | assumption))
  | with_reducible refine g_c ?_
  | with_reducible refine g_op ?_
  | with_reducible refine g_I0 ?_
  | ((with_reducible refine' g_I ?hh ?_); (case hh => walk_at "side"))
  | with_reducible refine g_U ?_
  | with_reducible refine g_un ?_
  | with_reducible refine g_tt ?_
  | with_reducible refine g_tB ?_
  | with_reducible refine g_bl ?_
  | with_reducible refine g_blA ?_
  | with_reducible refine g_eqI ?_
  | with_reducible refine g_neI ?_
  | with_reducible refine g_eqB ?_
  | with_reducible refine g_eqS ?_
  | with_reducible refine g_neS ?_
  | with_reducible refine g_isN ?_
  | with_reducible refine g_notN ?_
  | with_reducible refine g_isB ?_
  | with_reducible refine g_notB ?_
  | with_reducible refine g_isT ?_
  | with_reducible refine g_cons ?_
  | with_reducible refine g_nil ?_
  | with_reducible refine g_call ?_
  | with_reducible refine g_callS ?_
  | with_reducible refine g_cB ?_
  | with_reducible refine g_fld ?_
  | ((with_reducible refine' g_get (by assumption) ?h1 ?c1 ?n1 ?l1 ?_); (case h1 => walk_at "at"); (case c1 => walk_at "fact"); (case n1 => walk_at "fact"); (case l1 => walk_at "fact"))
  | with_reducible refine g_meth ?_
  | with_reducible refine g_methS ?_
  | ((with_reducible refine' g_rcv (by assumption) ?h1 ?l1 ?_); (case h1 => walk_at "at"); (case l1 => walk_at "fact"))
  | with_reducible refine g_sfld ?_
  | ((with_reducible refine' g_put (by assumption) ?h1 ?c1 ?n1 ?l2 ?l1 ?_); (case h1 => walk_at "at"); (case c1 => walk_at "fact"); (case n1 => walk_at "fact"); (case l2 => exact Nat.le_of_ble_eq_true rfl); (case l1 => walk_at "fact"); (try clear hF); intro H hF; (try rw [upd_upd] at hF))
  | with_reducible refine g_and ?_
  | with_reducible refine g_or ?_
  | with_reducible refine g_not ?_
  | with_reducible refine g_andV ?_
  | with_reducible refine g_orV ?_
  | with_reducible refine g_notV ?_
  | with_reducible refine g_if ?_
  | with_reducible refine g_chn ?_
  | with_reducible refine g_cc ?_
  | with_reducible refine g_cl ?_
  | with_reducible refine w_true ?_
  | with_reducible refine w_false ?_
  | with_reducible refine w_nt ?_
  | with_reducible refine w_nf ?_
  | with_reducible refine w_ntt ?_
  | with_reducible refine g_set ?_
  | with_reducible refine g_set1 ?_
  | with_reducible refine g_seq ?_
  | with_reducible refine g_ret ?_
  | with_reducible refine g_ifS ?_
  | with_reducible refine g_drop ?_
  | with_reducible refine g_asg ?_
  | with_reducible refine g_next ?_
  | with_reducible refine g_cont ?_
  | with_reducible refine g_brk ?_
  | with_reducible refine g_retN ?_
  | with_reducible refine g_int1 ?_
  | with_reducible refine g_int1b ?_
  | with_reducible refine g_max2 ?_
  | with_reducible refine g_min2 ?_
  | with_reducible refine g_tup ?_
  | with_reducible refine g_lst ?_
  | ((with_reducible refine' g_newO (by assumption) ?hh ?_); (case hh => exact Nat.le_of_ble_eq_true rfl); (try clear hF); intro p1 H hF1 hF)
  | with_reducible refine g_lcL ?_
  | with_reducible refine g_lcR1 ?_
  | with_reducible refine g_yes ?_
  | with_reducible refine g_dIn ?_
  | with_reducible refine g_dNot ?_
  | with_reducible refine g_dGet ?_
  | with_reducible refine g_dpop2 ?_
  | with_reducible refine g_dpop1 ?_
  | with_reducible refine g_bm ?_
  | with_reducible refine g_bm0 ?_
  | ((with_reducible refine' g_dnew (by assumption) ?_); (try clear hF); intro p1 H hF1 hF)
  | with_reducible refine g_sdput ?_
  | ((with_reducible refine' g_din (by assumption) ?h1 ?_); (case h1 => walk_at "at"))
  | ((with_reducible refine' g_isd (by assumption) ?h1 ?_); (case h1 => walk_at "at"))
  | ((with_reducible refine' g_tyL (by assumption) ?h1 ?_); (case h1 => walk_at "at"))
  | with_reducible refine g_make ?_
  | with_reducible refine g_sl ?_
  | with_reducible refine g_noP ?_
  | with_reducible refine g_part ?_
  | with_reducible refine g_exI ?_
  | ((with_reducible refine' g_len ?hh ?_); (case hh => walk_at "sq"))
  | ((with_reducible refine' g_lenT ?hh ?_); (case hh => walk_at "sq"))
  | with_reducible refine g_forL ?_
  | with_reducible refine g_forT ?_
  | with_reducible refine g_forR1 ?_
  | with_reducible refine g_forR2 ?_
  | with_reducible refine g_name ?_
  | ((with_reducible refine' g_itL ?hh ?_); (case hh => walk_at "sq"))
  | ((with_reducible refine' g_itT ?hh ?_); (case hh => walk_at "sq")))
local macro_rules | `(tactic| walk_at "rd") => `(tactic| repeat walk_at "rd1")

/-! readings -/
theorem cl_is_whole {K : PySem.W.Frag} {a : Ad} {F H : Hp} {x : V} {Q : VK} {E : XK} (hF : Same F H) (hx : Rp.Kd F x) (q : ∀ H', Same F H' → Q (.bl (Rp.isInt x)) H') : sp_is_whole K a [x] H Q E := ⟨F, hF, x, rfl, hx, q⟩
theorem may_int {s : Sn} {i : Int} : may s (.int i) = (decide (s.b ≤ i) && decide (i ≤ s.t) && (decide (i < s.b + s.w) && decide (i < s.m))) := rfl
theorem rd_is_whole {K : PySem.W.Frag} {mg : Str → Option Value} {a : Ad} (T : Txt K mg a) {vs : List V} {H : Hp} {Q : VK} {E : XK} (h : sp_is_whole K a vs H Q E) : t_is_whole K a { nx := fun _ H' => Q .non H', rt := Q } (start N_is_whole vs) H := by
  obtain ⟨F, hF, x, rfl, hx, k⟩ := h
  unfold t_is_whole
  walk_at "rd"
  exact hx.typ hF (k _ hF)
theorem rd_Sender_init {K : PySem.W.Frag} {mg : Str → Option Value} {a : Ad} (T : Txt K mg a) {vs : List V} {H : Hp} {Q : VK} {E : XK} (h : sp_Sender_init K a vs H Q E) : t_Sender_init K a { nx := fun _ H' => Q .non H', rt := Q } (start N_Sender_init vs) H := by
  obtain ⟨F, hF, p, w, r, m, dx, rfl, hp, k⟩ := h
  unfold t_Sender_init
  walk_at "rd"
  exact k _ hF
theorem rd_Sender_span {K : PySem.W.Frag} {mg : Str → Option Value} {a : Ad} (T : Txt K mg a) {vs : List V} {H : Hp} {Q : VK} {E : XK} (h : sp_Sender_span K a vs H Q E) : t_Sender_span K a { nx := fun _ H' => Q .non H', rt := Q } (start N_Sender_span vs) H := by
  obtain ⟨F, hF, p, dx, s, rfl, hp, k⟩ := h
  unfold t_Sender_span
  walk_at "rd"
  exact k _ hF1 _ hF
theorem rd_Sender_heard {K : PySem.W.Frag} {mg : Str → Option Value} {a : Ad} (T : Txt K mg a) {vs : List V} {H : Hp} {Q : VK} {E : XK} (h : sp_Sender_heard K a vs H Q E) : t_Sender_heard K a { nx := fun _ H' => Q .non H', rt := Q } (start N_Sender_heard vs) H := by
  obtain ⟨F, hF, p, n, dx, s, rfl, hp, hr, k⟩ := h
  unfold t_Sender_heard
  walk_at "rd"
  refine w_dec (fun h1 => ?_) (fun h1 => ?_)
  · walk_at "rd"
    unfold hear at k
    rw [if_pos h1] at k
    exact k _ hF
  · walk_at "rd"
    unfold hear at k
    rw [if_neg h1] at k
    refine k _ ?_
    rw [upd_id hp]
    exact hF
theorem rd_Sender_may_send {K : PySem.W.Frag} {mg : Str → Option Value} {a : Ad} (T : Txt K mg a) {vs : List V} {H : Hp} {Q : VK} {E : XK} (h : sp_Sender_may_send K a vs H Q E) : t_Sender_may_send K a { nx := fun _ H' => Q .non H', rt := Q } (start N_Sender_may_send vs) H := by
  obtain ⟨F, hF, p, x, dx, s, rfl, hp, hx, k⟩ := h
  unfold t_Sender_may_send
  walk_at "rd"
  refine cl_is_whole hF hx fun H hF => ?_
  walk_at "rd"
  cases x with
  | int i =>
    rw [isInt_int]
    walk_at "rd"
    rw [may_int] at k
    refine w_dec (fun h1 => ?_) (fun h1 => ?_)
    · walk_at "rd"
      rw [decide_eq_false (by omega : ¬ s.b ≤ i)] at k
      exact k _ hF
    · walk_at "rd"
      refine w_dec (fun h2 => ?_) (fun h2 => ?_)
      · walk_at "rd"
        rw [decide_eq_false (by omega : ¬ i ≤ s.t), Bool.and_false] at k
        exact k _ hF
      · walk_at "rd"
        rw [decide_eq_true (by omega : s.b ≤ i), decide_eq_true (by omega : i ≤ s.t)] at k
        refine w_dec (fun h3 => ?_) (fun h3 => ?_)
        · walk_at "rd"
          rw [decide_eq_true h3] at k
          exact k _ hF
        · rw [decide_eq_false h3] at k
          exact k _ hF
  | _ =>
    rw [show Rp.isInt _ = false from rfl]
    walk_at "rd"
    exact k _ hF
theorem rd_Sender_sent {K : PySem.W.Frag} {mg : Str → Option Value} {a : Ad} (T : Txt K mg a) {vs : List V} {H : Hp} {Q : VK} {E : XK} (h : sp_Sender_sent K a vs H Q E) : t_Sender_sent K a E { nx := fun _ H' => Q .non H', rt := Q } (start N_Sender_sent vs) H := by
  obtain ⟨F, hF, p, x, dx, s, rfl, hp, hx, hr, k1, k2⟩ := h
  unfold t_Sender_sent
  walk_at "rd"
  refine ⟨F, hF, p, x, dx, s, rfl, hp, hx, fun H hF => ?_⟩
  walk_at "rd"
  cases hm : may s x with
  | false =>
    walk_at "rd"
    exact k2 hm _ hF
  | true =>
    walk_at "rd"
    cases x with
    | int i =>
      have k := k1 i rfl hm
      unfold sentS at k
      walk_at "rd"
      refine w_dec (fun h1 => ?_) (fun h1 => ?_)
      · rw [if_pos h1] at k
        walk_at "rd"
        exact k _ hF
      · rw [if_neg h1, upd_id hp] at k
        walk_at "rd"
        exact k _ hF
    | _ => cases hm
theorem rd_l_at {K : PySem.W.Frag} {mg : Str → Option Value} {a : Ad} (T : Txt K mg a) {vs : List V} {H : Hp} {Q : VK} {E : XK} (h : sp_l_at K a vs H Q E) : t_l_at K a { nx := fun _ H' => Q .non H', rt := Q } (start N_l_at vs) H := by
  obtain ⟨F, hF, p, i, ns, rfl, hp, h0, k⟩ := h
  unfold t_l_at
  walk_at "rd"
  refine w_dec (fun h1 => ?_) (fun h1 => ?_)
  · walk_at "rd"
    refine g_ixL (Same.seq hF hp) (cell_in h0 h1) ?_
    walk_at "rd"
    exact k _ hF
  · walk_at "rd"
    rw [cell_off h0 h1] at k
    exact k _ hF
theorem rd_l_mixed {K : PySem.W.Frag} {mg : Str → Option Value} {a : Ad} (T : Txt K mg a) {vs : List V} {H : Hp} {Q : VK} {E : XK} (h : sp_l_mixed K a vs H Q E) : t_l_mixed K a { nx := fun _ H' => Q .non H', rt := Q } (start N_l_mixed vs) H := by
  obtain ⟨F, hF, c, i, rfl, h0, h1, k⟩ := h
  unfold t_l_mixed
  walk_at "rd"
  exact k _ hF
theorem rd_l_whole {K : PySem.W.Frag} {mg : Str → Option Value} {a : Ad} (T : Txt K mg a) {vs : List V} {H : Hp} {Q : VK} {E : XK} (h : sp_l_whole K a vs H Q E) : t_l_whole K a { nx := fun _ H' => Q .non H', rt := Q } (start N_l_whole vs) H := by
  obtain ⟨F, hF, x, rfl, hx, k⟩ := h
  unfold t_l_whole
  walk_at "rd"
  refine hx.isi hF ?_
  walk_at "rd"
  refine w_bool (fun h1 => ?_) (fun h1 => ?_)
  · walk_at "rd"
    refine hx.isb hF ?_
    walk_at "rd"
    cases x <;> first | exact k _ hF | cases h1
  · walk_at "rd"
    cases x <;> first | exact k _ hF | cases h1
theorem hot_loop {K : PySem.W.Frag} {eA p : Addr} {F H : Hp} {xs : List V} {w : Str} {o : Option V} {nN : L2.St → Hp → Prop} {nR : VK} {b : TS} (hb : b = tAsg (tOp Rp.rCatS (tVar 1) (tOp Rp.rStrRep (tC (.str "x")) (tCB Rp.rInt1 (tCons (tVar 2) (tNil))))) (gName 1))
    (hw : w ++ Str.empty = w) (hl : w.length ≤ 100) (hF : Same F H) (hp : F p = some (.lst xs)) (hx : ∀ x ∈ xs, x = .bl false) (hd : ∀ o H, Same F H → nN [some (.ref eA), some (.str w), o] H) : Rp.Lp (Itl K p) (gName 2) b nN nR [some (.ref eA), some (.str w), o] H := by
  subst hb
  refine Rp.lp_list (xs := xs) (fun i σ F' => F' = F ∧ ∃ o, σ = [some (.ref eA), some (.str w), o]) hF ⟨rfl, o, rfl⟩ ?_ ?_ ?_
  · rintro i σ F hi ⟨rfl, -⟩
    exact .inl (.inl hp)
  · rintro i x σ F H hi ⟨rfl, o, rfl⟩ hF
    have e := hx x (List.mem_of_getElem? hi)
    subst e
    walk_at "rd"
    refine g_rep (by decide) (by decide) (by decide) ?_
    refine g_catS (Nat.le_trans (Nat.add_le_add hl (Nat.zero_le _ : 0 ≤ 0)) (by decide)) ?_
    walk_at "rd"
    refine ⟨_, hF, rfl, some (.bl false), ?_⟩
    show [some (V.ref eA), some (V.str (w ++ Str.empty)), some (V.bl false)] = _
    rw [hw]
  · rintro σ F H ⟨rfl, o, rfl⟩ hF
    exact hd o H hF
theorem rd_l_word {K : PySem.W.Frag} {mg : Str → Option Value} {a : Ad} (T : Txt K mg a) {er : Er} {eA : Addr} {vs : List V} {H : Hp} {Q : VK} {E : XK} (h : sp_l_word K a er eA vs H Q E) : t_l_word K a er eA { nx := fun _ H' => Q .non H', rt := Q } (start N_l_word vs) H := by
  obtain ⟨F, hF, _, rfl, k⟩ := h
  cases er
  unfold t_l_word
  walk_at "rd"
  refine isE_of (T.is_NotNow .NotNow) ?_
  walk_at "rd"
  refine g_rep (by decide) (by decide) (by decide +kernel) ?_
  walk_at "rd"
  refine isE_of (T.is_BadBounds .NotNow) ?_
  walk_at "rd"
  refine isE_of (T.is_BadRing .NotNow) ?_
  walk_at "rd"
  refine isE_of (T.is_BadTexts .NotNow) ?_
  walk_at "rd"
  refine hot_loop (w := "now") (eA := eA) (o := none) rfl (by decide +kernel) (by decide +kernel) hF upd_same ?_ fun o H hF => ?_
  · intro x hx
    simp only [List.mem_cons, List.not_mem_nil, or_false] at hx
    rcases hx with rfl | rfl | rfl <;> rfl
  walk_at "rd"
  refine isE_of (T.is_BadStep .NotNow) ?_
  walk_at "rd"
  refine isE_of (T.is_NoLetter .NotNow) ?_
  walk_at "rd"
  refine isE_of (T.is_Safe .NotNow) ?_
  walk_at "rd"
  refine hot_loop (w := "now") (eA := eA) rfl (by decide +kernel) (by decide +kernel) hF upd_same ?_ fun o H hF => ?_
  · intro x hx
    simp only [List.mem_cons, List.not_mem_nil, or_false] at hx
    rcases hx with rfl | rfl | rfl <;> rfl
  walk_at "rd"
  refine isE_of (T.is_NoLine .NotNow) ?_
  walk_at "rd"
  refine g_rep (by decide) (by decide) (by decide +kernel) ?_
  refine g_catS (by decide +kernel) ?_
  walk_at "rd"
  refine isE_ty (T.is_ValueError .NotNow) ?_
  walk_at "rd"
  refine g_rep (by decide) (by decide) (by decide +kernel) ?_
  walk_at "rd"
  rw [show strRep (("now" : Str) ++ strRep "x" (if isNoLine .NotNow = true then 1 else 0)) (if true = true then 1 else 0) = "now" by decide +kernel]
  exact k _ (sLow (sLow hF (same_new (by assumption))) (same_new (by assumption)))
theorem rd_l_said {K : PySem.W.Frag} {mg : Str → Option Value} {a : Ad} (T : Txt K mg a) {vs : List V} {H : Hp} {Q : VK} {E : XK} (h : sp_l_said K a vs H Q E) : t_l_said K a { nx := fun _ H' => Q .non H', rt := Q } (start N_l_said vs) H := by
  obtain ⟨F, hF, p, x, dx, s, rfl, hp, hx, hr, k1, k2⟩ := h
  unfold t_l_said b1_l_said
  walk_at "rd"
  refine ⟨F, hF, p, x, dx, s, rfl, hp, hx, hr, fun i e hm H hF => ?_, fun hm H hF => ?_⟩
  · walk_at "rd"
    exact k1 i e hm p1 (nn_low hF1) _ hF
  · refine ⟨true, T.ex_PostError .NotNow, fun _ a0 ha => ?_, fun z => nomatch z⟩
    refine ⟨.NotNow, ⟨rfl, rfl⟩, ?_⟩
    walk_at "rd"
    refine ⟨F, hF, (), rfl, fun H hF => ?_⟩
    walk_at "rd"
    exact k2 hm _ hF1 _ hF
theorem rd_l_span {K : PySem.W.Frag} {mg : Str → Option Value} {a : Ad} (T : Txt K mg a) {vs : List V} {H : Hp} {Q : VK} {E : XK} (h : sp_l_span K a vs H Q E) : t_l_span K a { nx := fun _ H' => Q .non H', rt := Q } (start N_l_span vs) H := by
  obtain ⟨F, hF, p, b, t, dx, s, rfl, hp, k⟩ := h
  unfold t_l_span
  walk_at "rd"
  refine ⟨F, hF, p, dx, s, rfl, hp, fun q hq H hF => ?_⟩
  walk_at "rd"
  refine isi_tup hF upd_same ?_
  walk_at "rd"
  refine' g_eqD ?d1 ?d2 ?s1 ?s2 ?_
  case d1 => walk_at "dp"
  case d2 => walk_at "dp"
  case s1 => walk_at "shp"
  case s2 => walk_at "shp"
  rw [eqv_ii]
  walk_at "rd"
  refine w_bool (fun h1 => ?_) (fun h1 => ?_)
  · walk_at "rd"
    refine g_ixT (i := 0) (xs := [V.int s.b, V.int s.t]) (v := .int s.b) (by walk_at "sq") rfl ?_
    walk_at "rd"
    refine ⟨_, hF, _, rfl, .int _, fun H hF => ?_⟩
    walk_at "rd"
    rw [isInt_int]
    walk_at "rd"
    refine g_ixT (i := 1) (xs := [V.int s.b, V.int s.t]) (v := .int s.t) (by walk_at "sq") rfl ?_
    walk_at "rd"
    refine ⟨_, hF, _, rfl, .int _, fun H hF => ?_⟩
    walk_at "rd"
    rw [h1] at k
    exact k _ (sLow (sLow hF (same_new (by assumption))) (same_new (by assumption)))
  · walk_at "rd"
    rw [h1] at k
    exact k _ (sLow (sLow hF (same_new (by assumption))) (same_new (by assumption)))
abbrev lw (sc : Addr) (one w r m : Int) (p q : Addr) (b t : Int) (o9 o10 o11 o12 o13 o14 o15 o16 : Option V) : L2.St := [some (.ref sc), some (.int one), some (.int w), some (.int r), some (.int m), some (.ref p), some (.ref q), some (.int b), some (.int t), o9, o10, o11, o12, o13, o14, o15, o16]
section
variable {K : PySem.W.Frag} {mg : Str → Option Value} {a : Ad} {F H : Hp} {σ : L2.St} {nN nB nC : L2.St → Hp → Prop} {nR : VK} {p q dx sc : Addr} {s : Sn} {c b t kk w r m one n : Int} {o9 o10 o11 o12 o13 o14 o15 o16 : Option V}
theorem i7_ok (T : Txt K mg a) (hF : Same F H) (hp : F p = some (snd a dx s)) (h5 : σ[5]? = some (some (.ref p))) (h7 : σ[7]? = some (some (.int b)))
    (h8 : σ[8]? = some (some (.int t))) (h9 : σ[9]? = some (some (.int c))) (hb : s.b = b) (ht : s.t = t) (q : ∀ H, Same F H → nN σ H) : i7_law K a (Ends.mk nN nR nB nC) σ H := by
  unfold i7_law
  walk_at "rd"
  refine w_dec (fun h1 => ?_) (fun h1 => ?_)
  · walk_at "rd"
    refine ⟨F, hF, p, b, t, dx, s, rfl, hp, fun H hF => ?_⟩
    rw [decide_eq_true hb, decide_eq_true ht]
    walk_at "rd"
    exact q _ hF
  · walk_at "rd"
    exact q _ hF
theorem eqv_ss {a b c d : Str} : PyData.eqv (.tuple [.str a, .str b]) (.tuple [.str c, .str d]) = (decide (a = c) && decide (b = d)) := by
  simp [PyData.eqv, PyData.eqvAll, Bool.beq_eq_decide_eq] <;> rfl
theorem eqv_si {a c : Str} {b d : Int} : PyData.eqv (.tuple [.str a, .int b]) (.tuple [.str c, .int d]) = (decide (a = c) && decide (b = d)) := by
  simp [PyData.eqv, PyData.eqvAll, Bool.beq_eq_decide_eq] <;> rfl
theorem i2_ok (T : Txt K mg a) (hF : Same F H) (hp : F p = some (snd a dx s)) (hr : 0 < s.r) (hm : may s (.int kk) = false) (h5 : σ[5]? = some (some (.ref p))) (h12 : σ[12]? = some (some (.int kk)))
    (q : ∀ H, Same F H → nN σ H) : i2_law K a (Ends.mk nN nR nB nC) σ H := by
  unfold i2_law
  walk_at "rd"
  refine ⟨F, hF, p, _, dx, s, rfl, hp, .int _, hr, fun i e h => ?_, fun _ f hf H hF => ?_⟩
  · cases e
    rw [hm] at h
    cases h
  · have hf : Nn F f := hf
    walk_at "rd"
    refine' g_neD ?d1 ?d2 ?s1 ?s2 ?_
    case d1 => walk_at "dp"
    case d2 => walk_at "dp"
    case s1 => walk_at "shp"
    case s2 => walk_at "shp"
    rw [eqv_ss, decide_eq_true rfl, decide_eq_true rfl]
    walk_at "rd"
    exact q _ (sLow (sLow hF (same_new (by assumption))) (same_new (by assumption)))
theorem i1_ok (T : Txt K mg a) {f : Addr} (hF : Same F H) (hf : F f = some (.tup [.str "told", .int (kk % r)])) (hr : 0 < r) (h3 : σ[3]? = some (some (.int r))) (h12 : σ[12]? = some (some (.int kk))) (h13 : σ[13]? = some (some (.ref f)))
    (q : ∀ H, Same F H → nN σ H) : i1_law K a (Ends.mk nN nR nB nC) σ H := by
  unfold i1_law
  walk_at "rd"
  refine' g_neD ?d1 ?d2 ?s1 ?s2 ?_
  case d1 => walk_at "dp"
  case d2 => walk_at "dp"
  case s1 => walk_at "shp"
  case s2 => walk_at "shp"
  rw [eqv_si, decide_eq_true rfl, decide_eq_true rfl]
  walk_at "rd"
  refine g_ixT (K := K) (i := 1) (xs := [V.str "told", V.int (kk % r)]) (v := .int (kk % r)) (by walk_at "sq") rfl ?_
  walk_at "rd"
  refine ⟨_, hF, _, rfl, .int _, fun H hF => ?_⟩
  walk_at "rd"
  rw [isInt_int]
  walk_at "rd"
  exact q _ (sLow hF (same_new (by assumption)))
theorem i3_ok (T : Txt K mg a) {F2 : Hp} (hr : 0 < r) (hbw : t ≤ b + w) (hF : Same (upd F2 p (snd a dx ⟨w, r, m, b, t⟩)) H)
    (q1 : ∀ t' o13 H', t ≤ t' → t' ≤ b + w → Same (upd F2 p (snd a dx ⟨w, r, m, b, t'⟩)) H' → nN (lw sc one w r m p q b t' o9 o10 o11 (some (.int kk)) o13 o14 o15 o16) H') :
    i3_law K a (Ends.mk nN nR nB nC) (lw sc one w r m p q b t o9 o10 o11 (some (.int kk)) o13 o14 o15 o16) H := by
  unfold i3_law
  walk_at "rd"
  have ref : may ⟨w, r, m, b, t⟩ (.int kk) = false → ∀ {H}, Same (upd F2 p (snd a dx ⟨w, r, m, b, t⟩)) H → i2_law K a (Ends.mk nN nR nB nC) (lw sc one w r m p q b t o9 o10 o11 (some (.int kk)) o13 o14 o15 o16) H :=
    fun hm H hF => i2_ok T hF upd_same hr hm rfl rfl fun H hF => q1 _ _ _ (Int.le_refl _) hbw hF
  refine w_dec (fun h1 => ?_) (fun h1 => ?_)
  · walk_at "rd"
    refine w_dec (fun h2 => ?_) (fun h2 => ?_)
    · walk_at "rd"
      refine w_dec (fun h3 => ?_) (fun h3 => ?_)
      · walk_at "rd"
        refine w_dec (fun h4 => ?_) (fun h4 => ?_)
        · walk_at "rd"
          have hm : may ⟨w, r, m, b, t⟩ (.int kk) = true := by
            rw [may_int, decide_eq_true h1, decide_eq_true h2, decide_eq_true h3, decide_eq_true h4]
            rfl
          refine ⟨_, hF, p, _, dx, _, rfl, upd_same, .int _, hr, fun i e h f hf H hF => ?_, fun h => ?_⟩
          · cases e
            rw [upd_upd] at hF
            walk_at "rd"
            refine i1_ok T hF upd_same hr rfl rfl rfl fun H hF => ?_
            walk_at "rd"
            have hf : Nn (upd F2 p (snd a dx (sentS ⟨w, r, m, b, t⟩ kk))) f := by
              have e3 : f ≠ p := by
                intro z
                subst z
                rw [upd_same] at hf
                cases hf
              rw [upd_ne e3] at hf
              show upd _ _ _ _ = none
              rw [upd_ne e3]
              exact hf
            replace hF := sLow hF (same_new hf)
            have et : sentS ⟨w, r, m, b, t⟩ kk = ⟨w, r, m, b, if kk + 1 > t then kk + 1 else t⟩ := by
              unfold sentS
              by_cases e4 : kk = t
              · rw [if_pos e4, if_pos (by omega)]
              · rw [if_neg e4, if_neg (by omega)]
            rw [et] at hF
            refine q1 _ _ _ ?_ ?_ hF
            · split <;> omega
            · split <;> omega
          · rw [hm] at h
            cases h
        · refine ref ?_ hF
          rw [may_int, decide_eq_false h4, Bool.and_false, Bool.and_false]
      · walk_at "rd"
        refine ref ?_ hF
        rw [may_int, decide_eq_false h3, Bool.false_and, Bool.and_false]
    · walk_at "rd"
      refine ref ?_ hF
      rw [may_int, decide_eq_false h2, Bool.and_false, Bool.false_and]
  · walk_at "rd"
    refine ref ?_ hF
    rw [may_int, decide_eq_false h1, Bool.false_and, Bool.false_and]
end
section
variable {K : PySem.W.Frag} {mg : Str → Option Value} {a : Ad} {F H : Hp} {σ : L2.St} {nN nB nC : L2.St → Hp → Prop} {nR : VK} {p q dx sc : Addr} {s : Sn} {c b t kk w r m one n : Int} {o9 o10 o11 o12 o13 o14 o15 o16 : Option V}
theorem i4_ok (T : Txt K mg a) {F2 : Hp} (hr : 0 < s.r) (hF : Same (upd F2 p (snd a dx s)) H) (h5 : σ[5]? = some (some (.ref p))) (h14 : σ[14]? = some (some (.int n)))
    (q : ∀ H, Same (upd F2 p (snd a dx (hear s n))) H → nN σ H) : i4_law K a (Ends.mk nN nR nB nC) σ H := by
  unfold i4_law
  walk_at "rd"
  refine ⟨_, hF, p, n, dx, s, rfl, upd_same, hr, fun H hF => ?_⟩
  rw [upd_upd] at hF
  walk_at "rd"
  rw [decide_eq_true rfl]
  walk_at "rd"
  exact q _ hF
theorem i8_ok (T : Txt K mg a) {v : V} (hF : Same F H) (hp : F p = some (snd a dx s)) (hk : Kd F v) (hm : may s v = false) (hr : 0 < s.r) (h5 : σ[5]? = some (some (.ref p))) (h16 : σ[16]? = some (some v))
    (h7 : σ[7]? = some (some (.int b))) (h8 : σ[8]? = some (some (.int t))) (hb : s.b = b) (ht : s.t = t) (q : ∀ H, Same F H → nN σ H) : i8_law K a (Ends.mk nN nR nB nC) σ H := by
  unfold i8_law
  walk_at "rd"
  refine ⟨F, hF, p, _, dx, s, rfl, hp, hk, hr, fun i e h => ?_, fun _ f hf H hF => ?_⟩
  · rw [hm] at h
    cases h
  · have hf : Nn F f := hf
    walk_at "rd"
    refine' g_neD ?d1 ?d2 ?s1 ?s2 ?_
    case d1 => walk_at "dp"
    case d2 => walk_at "dp"
    case s1 => walk_at "shp"
    case s2 => walk_at "shp"
    rw [eqv_ss, decide_eq_true rfl, decide_eq_true rfl]
    walk_at "rd"
    have hF := sLow (sLow hF (same_new (by assumption))) (same_new (by assumption))
    refine ⟨F, hF, p, b, t, dx, s, rfl, hp, fun H hF => ?_⟩
    rw [decide_eq_true hb, decide_eq_true ht]
    walk_at "rd"
    exact q _ hF
theorem i6_ok (T : Txt K mg a) {F2 : Hp} (hw : 0 < w) (hr : 0 < r) (hb0 : 0 ≤ b) (hbt : b ≤ t) (hbw : t ≤ b + w) (hF : Same (upd F2 p (snd a dx ⟨w, r, m, b, t⟩)) H)
    (q1 : ∀ b' t' o11 o12 o13 o14 o15 H', 0 ≤ b' → b' ≤ t' → t' ≤ b' + w → Same (upd F2 p (snd a dx ⟨w, r, m, b', t'⟩)) H' → nN (lw sc one w r m p q b' t' (some (.int c)) (some (.int n)) o11 o12 o13 o14 o15 o16) H') :
    i6_law K a (Ends.mk nN nR nB nC) (lw sc one w r m p q b t (some (.int c)) (some (.int n)) o11 o12 o13 o14 o15 o16) H := by
  unfold i6_law
  walk_at "rd"
  refine w_dec (fun h1 => ?_) (fun h1 => ?_)
  · walk_at "rd"
    obtain ⟨k0, hk0, e0⟩ := menuI [0, 0, 1, 1, 2, 3, 4, 5] (i := n % 8) (by omega) (by show _ < (8 : Int); omega)
    refine g_ixL (K := K) (by walk_at "sq") e0 ?_
    have hk0 : 0 ≤ k0 ∧ k0 < 6 := by
      simp only [List.mem_cons, List.not_mem_nil, or_false] at hk0
      omega
    obtain ⟨kk, hkk, e1⟩ := menuI [t, b + n / 4 % w, b - 1, b + w, t + 1, m] (i := k0) (by omega) (by show _ < (6 : Int); omega)
    refine g_ixL (K := K) (by walk_at "sq") e1 ?_
    replace hF := sLow (sLow hF (same_new (by assumption))) (same_new (by assumption))
    walk_at "rd"
    exact i3_ok T hr hbw hF fun t' o13 H' ht hw hF => q1 _ _ _ _ _ _ _ _ hb0 (Int.le_trans hbt ht) hw hF
  · walk_at "rd"
    obtain ⟨n1, hn1, e1⟩ := menuI [n % r, (b + n / 5 % (t - b + 1)) % r] (i := n % 5 / 2 % 2) (by omega) (by show _ < (2 : Int); omega)
    refine g_ixL (K := K) (by walk_at "sq") e1 ?_
    replace hF := sLow hF (same_new (by assumption))
    walk_at "rd"
    refine i4_ok T hr hF rfl rfl fun H hF => ?_
    walk_at "rd"
    unfold i5_law
    walk_at "rd"
    unfold hear at hF
    refine w_dec (fun h2 => ?_) (fun h2 => ?_)
    · rw [if_pos h2] at hF
      walk_at "rd"
      have := Int.emod_nonneg (n1 - b) (show r ≠ 0 by omega)
      exact q1 _ _ _ _ _ _ _ _ (by omega) h2 (by omega) hF
    · rw [if_neg h2] at hF
      walk_at "rd"
      exact q1 _ _ _ _ _ _ _ _ hb0 hbt hbw hF
end
theorem rd_law {K : PySem.W.Frag} {mg : Str → Option Value} {a : Ad} (T : Txt K mg a) {vs : List V} {H : Hp} {Q : VK} {E : XK} (h : sp_law K a vs H Q E) : t_law K a { nx := fun _ H' => Q .non H', rt := Q } (start N_law vs) H := by
  obtain ⟨F, hF, sc, ns, rfl, hs, hl, k⟩ := h
  unfold t_law
  walk_at "rd"
  refine ⟨F, hF, sc, 0, ns, rfl, hs, by decide, fun H hF => ?_⟩
  walk_at "rd"
  refine ⟨F, hF, _, 0, rfl, by decide, by decide, fun H hF => ?_⟩
  walk_at "rd"
  generalize mixed (cell ns 0) 0 = one at *
  obtain ⟨x1, hx1, e1⟩ := menuI [4, 20] (i := one / 20 % 2) (by omega) (by show _ < (2 : Int); omega)
  refine g_ixL (sqL_of hF upd_same) e1 ?_
  have hx1 : 4 ≤ x1 ∧ x1 ≤ 20 := by
    simp only [List.mem_cons, List.not_mem_nil, or_false] at hx1
    omega
  walk_at "rd"
  have hw : 1 ≤ 1 + one % x1 ∧ 1 + one % x1 ≤ 20 := by
    have := Int.emod_nonneg one (show x1 ≠ 0 by omega)
    have := Int.emod_lt_of_pos one (show 0 < x1 by omega)
    omega
  generalize 1 + one % x1 = w at *
  replace hF := sLow hF (same_new hF1)
  refine ⟨F, hF, sc, 1, ns, rfl, hs, by decide, fun H hF => ?_⟩
  walk_at "rd"
  refine ⟨F, hF, _, 1, rfl, by decide, by decide, fun H hF => ?_⟩
  walk_at "rd"
  generalize mixed (cell ns 1) 1 = two at *
  obtain ⟨x2, hx2, e2⟩ := menuI [w + 4, 45] (i := one / 40 % 2) (by omega) (by show _ < (2 : Int); omega)
  refine g_ixL (sqL_of hF upd_same) e2 ?_
  have hx2 : 5 ≤ x2 ∧ x2 ≤ 45 := by
    simp only [List.mem_cons, List.not_mem_nil, or_false] at hx2
    omega
  walk_at "rd"
  have hr : 1 ≤ 1 + two % x2 ∧ 1 + two % x2 ≤ 45 := by
    have := Int.emod_nonneg two (show x2 ≠ 0 by omega)
    have := Int.emod_lt_of_pos two (show 0 < x2 by omega)
    omega
  generalize 1 + two % x2 = r at *
  replace hF := sLow hF (same_new hF1)
  refine ⟨F, hF, sc, 2, ns, rfl, hs, by decide, fun H hF => ?_⟩
  walk_at "rd"
  refine ⟨F, hF, _, 2, rfl, by decide, by decide, fun H hF => ?_⟩
  walk_at "rd"
  have hm : 0 ≤ mixed (cell ns 2) 2 % 31 := Int.emod_nonneg _ (by decide)
  generalize mixed (cell ns 2) 2 % 31 = m at *
  refine g_mk hF fun p dx hp hdx ne => ⟨p, w, r, m, dx, rfl, upd_same, fun H hF => ⟨rfl, ?_⟩⟩
  rw [upd_upd] at hF
  walk_at "rd"
  refine g_mk hF fun q dq hq hdq neq => ⟨q, w, r, m, dq, rfl, upd_same, fun H hF => ⟨rfl, ?_⟩⟩
  rw [upd_upd] at hF
  have npq : q ≠ p := nn_ne hq
  have npd : dq ≠ p := nn_ne hdq
  obtain ⟨F2, eF2, hF0, hp2, hq2⟩ : ∃ F2, Same F2 H ∧ Same F F2 ∧ F2 p = some (snd a dx ⟨w, r, m, 0, 0⟩) ∧ F2 q = some (snd a dq ⟨w, r, m, 0, 0⟩) := by
    refine ⟨_, hF, ?_, ?_, upd_same⟩
    · exact (same_new hdx).trans ((show Same _ (upd _ _ _) from same_new (by show upd _ _ _ _ = none; rw [upd_ne ne.symm]; exact hp)).trans ((same_new hdq).trans (same_new (by show upd _ _ _ _ = none; rw [upd_ne neq.symm]; exact hq))))
    · rw [upd_ne npq.symm, upd_ne npd.symm, upd_same]
  clear hF
  have hF := eF2
  walk_at "rd"
  refine ⟨F2, hF, p, 0, 0, dx, _, rfl, hp2, fun H hF => ?_⟩
  walk_at "rd"
  rw [decide_eq_true rfl]
  walk_at "rd"
  refine g_slL hF (Same.seq hF0 hs) fun l H hl hF => ?_
  have nlp : l ≠ p := fun z => by
    subst z
    have : F2 l = none := hl
    rw [hp2] at this
    cases this
  have nlq : l ≠ q := fun z => by
    subst z
    have : F2 l = none := hl
    rw [hq2] at this
    cases this
  walk_at "rd"
  refine lp_list (F := upd (upd F2 l (.lst (cutV (ns.map V.int) (some 3) (some 43)))) p (snd a dx ⟨w, r, m, 0, 0⟩)) (xs := cutV (ns.map V.int) (some 3) (some 43))
    (fun i σ F => ∃ b t o9 o10 o11 o12 o13 o14 o15 o16, σ = lw sc one w r m p q b t o9 o10 o11 o12 o13 o14 o15 o16 ∧ 0 ≤ b ∧ b ≤ t ∧ t ≤ b + w ∧ F = upd (upd F2 l (.lst (cutV (ns.map V.int) (some 3) (some 43)))) p (snd a dx ⟨w, r, m, b, t⟩))
    ?_ ⟨0, 0, none, none, none, none, none, none, none, none, rfl, by omega, by omega, by omega, rfl⟩ ?_ ?_ ?_
  · rw [upd_id]
    · exact hF
    · rw [upd_ne nlp.symm]
      exact hp2
  · rintro i σ F hi ⟨b, t, o9, o10, o11, o12, o13, o14, o15, o16, rfl, h1, h2, h3, rfl⟩
    refine sqL_of (fun _ _ z => z) ?_
    rw [upd_ne nlp, upd_same]
  · rintro i x σ F H hi ⟨b, t, o9, o10, o11, o12, o13, o14, o15, o16, rfl, h1, h2, h3, rfl⟩ hF
    obtain ⟨c, rfl⟩ := cutV_int (List.mem_of_getElem? hi)
    walk_at "rd"
    unfold b1_law
    walk_at "rd"
    refine i6_ok (p := p) (q := q) T (by omega) (by omega) h1 h2 h3 hF fun b' t' o11 o12 o13 o14 o15 H h1 h2 h3 hF => ?_
    refine i7_ok T hF upd_same rfl rfl rfl rfl rfl rfl fun H hF => ?_
    exact ⟨_, hF, b', t', _, _, _, _, _, _, _, _, rfl, h1, h2, h3, rfl⟩
  · rintro σ F H ⟨b, t, o9, o10, o11, o12, o13, o14, o15, o16, rfl, h1, h2, h3, rfl⟩ hF
    walk_at "rd"
    have hS : Same F (upd (upd F2 l (.lst (cutV (ns.map V.int) (some 3) (some 43)))) p (snd a dx ⟨w, r, m, b, t⟩)) := same_mut hp (hF0.trans (same_new hl))
    refine ⟨_, hF, sc, 2, ns, rfl, Same.seq (((hS.trans (same_new (by assumption))).trans (same_new (by assumption))).trans (same_new (by assumption))) hs, by decide, fun H hF => ?_⟩
    walk_at "rd"
    refine g_menu hF upd_same (Int.emod_nonneg (cell ns 2) (by decide : (8 : Int) ≠ 0)) (Int.emod_lt_of_pos (cell ns 2) (by decide : (0 : Int) < 8)) fun v hv => ?_
    simp only [List.mem_cons, List.not_mem_nil, or_false] at hv
    walk_at "rd"
    refine i8_ok (v := v) T hF (by walk_at "at") ?_ ?_ (by show 0 < r; omega) rfl rfl rfl rfl rfl rfl fun H hF => ?_
    · rcases hv with rfl | rfl | rfl | rfl | rfl | rfl | rfl | rfl
      · exact .non
      · exact .bl _
      · exact .str _
      · exact .lst (by walk_at "at")
      · exact .tup (by walk_at "at")
      · exact .int _
      · exact .bl _
      · exact .int _
    · rcases hv with rfl | rfl | rfl | rfl | rfl | rfl | rfl | rfl
      · rfl
      · rfl
      · rfl
      · rfl
      · rfl
      · rw [may_int, decide_eq_false (by show ¬ b ≤ -1; omega), Bool.false_and, Bool.false_and]
      · rfl
      · have e : (10 : Int) ^ Int.toNat 6 = 1000000 := by decide +kernel
        rw [may_int, e, decide_eq_false (show ¬ (b + 1000000 ≤ (⟨w, r, m, b, t⟩ : Sn).t) from by show ¬ b + 1000000 ≤ t; omega), Bool.and_false, Bool.false_and]
    · walk_at "rd"
      refine ⟨_, hF, q, 0, 0, dq, ⟨w, r, m, 0, 0⟩, rfl, ?_, fun H hF => ?_⟩
      · have hq3 : (upd (upd F2 l (.lst (cutV (ns.map V.int) (some 3) (some 43)))) p (snd a dx ⟨w, r, m, b, t⟩)) q = some (snd a dq ⟨w, r, m, 0, 0⟩) := by
          rw [upd_ne npq, upd_ne nlq.symm]
          exact hq2
        walk_at "at"
      · rw [decide_eq_true rfl]
        walk_at "rd"
        exact k _ (((hS.trans (same_new (by assumption))).trans (same_new (by assumption))).trans (same_new (by assumption))) _ hF

section
variable {P : Program} {w : World} {K : PySem.W.Frag} {mg : Str → Option Value} {base : Heap} {a : Ad}
theorem ok_is_whole {fd : FuncData} (F : Fun K "is_whole" "is_whole" s_is_whole a.f_is_whole fd) (T : Txt K mg a)  : FnOk P w K mg base CX0 1 a.f_is_whole fd ["thing"] (sp_is_whole K a) := by
  refine F.ok (k := 0) sc_is_whole (fun vs H Q E h => ?_) (fun cdv A outer s H vs Q E hr h => ⟨t_is_whole K a, ?_, rd_is_whole T h⟩)
  · first | (obtain ⟨_, _, rfl, _⟩ := h; rfl) | (obtain ⟨_, _, _, rfl, _⟩ := h; rfl) | (obtain ⟨_, _, _, _, rfl, _⟩ := h; rfl) | (obtain ⟨_, _, _, _, _, rfl, _⟩ := h; rfl) | (obtain ⟨_, _, _, _, _, _, rfl, _⟩ := h; rfl) | (obtain ⟨_, _, _, _, _, _, _, rfl, _⟩ := h; rfl) | (obtain ⟨_, _, _, _, _, _, _, _, rfl, _⟩ := h; rfl) | (obtain ⟨_, _, _, _, _, _, _, _, _, rfl, _⟩ := h; rfl) | (obtain ⟨_, _, _, _, _, _, _, _, _, _, rfl, _⟩ := h; rfl) | (obtain ⟨_, _, _, _, _, _, _, _, _, _, _, rfl, _⟩ := h; rfl) | (obtain ⟨_, _, _, _, _, _, _, _, _, _, _, _, rfl, _⟩ := h; rfl) | (obtain ⟨_, _, _, _, _, _, _, _, _, _, _, _, _, rfl, _⟩ := h; rfl)
  · exact pss_one (ps_ret (pe_cmpR op_isTyB (pe_callTy call_type1 (by rfl) T.n_type (by decide +kernel) (pa_cons (pv 0) (pa_nil))) (pe_bltn (v := .ty "int") rfl T.n_int (by decide +kernel) rfl) (nomark _)))
theorem ok_Sender_init {fd : FuncData} (F : Fun K "__init__" "Sender.__init__" s_Sender_init a.f_Sender_init fd) (T : Txt K mg a)  : FnOk P w K mg base CX0 1 a.f_Sender_init fd ["self", "window", "ring", "many"] (sp_Sender_init K a) := by
  refine F.ok (k := 0) sc_Sender_init (fun vs H Q E h => ?_) (fun cdv A outer s H vs Q E hr h => ⟨t_Sender_init K a, ?_, rd_Sender_init T h⟩)
  · first | (obtain ⟨_, _, rfl, _⟩ := h; rfl) | (obtain ⟨_, _, _, rfl, _⟩ := h; rfl) | (obtain ⟨_, _, _, _, rfl, _⟩ := h; rfl) | (obtain ⟨_, _, _, _, _, rfl, _⟩ := h; rfl) | (obtain ⟨_, _, _, _, _, _, rfl, _⟩ := h; rfl) | (obtain ⟨_, _, _, _, _, _, _, rfl, _⟩ := h; rfl) | (obtain ⟨_, _, _, _, _, _, _, _, rfl, _⟩ := h; rfl) | (obtain ⟨_, _, _, _, _, _, _, _, _, rfl, _⟩ := h; rfl) | (obtain ⟨_, _, _, _, _, _, _, _, _, _, rfl, _⟩ := h; rfl) | (obtain ⟨_, _, _, _, _, _, _, _, _, _, _, rfl, _⟩ := h; rfl) | (obtain ⟨_, _, _, _, _, _, _, _, _, _, _, _, rfl, _⟩ := h; rfl) | (obtain ⟨_, _, _, _, _, _, _, _, _, _, _, _, _, rfl, _⟩ := h; rfl)
  · exact pss_cons (ps_fld (pv 0) (pv 1) rfl) (pss_cons (ps_fld (pv 0) (pv 2) rfl) (pss_cons (ps_fld (pv 0) (pv 3) rfl) (pss_cons (ps_fld (pv 0) (pe_int) rfl) (pss_one (ps_fld (pv 0) (pe_int) rfl)))))
theorem ok_Sender_span {fd : FuncData} (F : Fun K "span" "Sender.span" s_Sender_span a.f_Sender_span fd) (T : Txt K mg a)  : FnOk P w K mg base CX0 1 a.f_Sender_span fd ["self"] (sp_Sender_span K a) := by
  refine F.ok (k := 0) sc_Sender_span (fun vs H Q E h => ?_) (fun cdv A outer s H vs Q E hr h => ⟨t_Sender_span K a, ?_, rd_Sender_span T h⟩)
  · first | (obtain ⟨_, _, rfl, _⟩ := h; rfl) | (obtain ⟨_, _, _, rfl, _⟩ := h; rfl) | (obtain ⟨_, _, _, _, rfl, _⟩ := h; rfl) | (obtain ⟨_, _, _, _, _, rfl, _⟩ := h; rfl) | (obtain ⟨_, _, _, _, _, _, rfl, _⟩ := h; rfl) | (obtain ⟨_, _, _, _, _, _, _, rfl, _⟩ := h; rfl) | (obtain ⟨_, _, _, _, _, _, _, _, rfl, _⟩ := h; rfl) | (obtain ⟨_, _, _, _, _, _, _, _, _, rfl, _⟩ := h; rfl) | (obtain ⟨_, _, _, _, _, _, _, _, _, _, rfl, _⟩ := h; rfl) | (obtain ⟨_, _, _, _, _, _, _, _, _, _, _, rfl, _⟩ := h; rfl) | (obtain ⟨_, _, _, _, _, _, _, _, _, _, _, _, rfl, _⟩ := h; rfl) | (obtain ⟨_, _, _, _, _, _, _, _, _, _, _, _, _, rfl, _⟩ := h; rfl)
  · exact pss_one (ps_ret (pe_tup (pa_cons (pe_fld (pv 0) rfl) (pa_cons (pe_fld (pv 0) rfl) (pa_nil)))))
theorem ok_Sender_sent {fd fd_Sender_may_send : FuncData} (F : Fun K "sent" "Sender.sent" s_Sender_sent a.f_Sender_sent fd) (T : Txt K mg a) (G_Sender_may_send : FnOk P w K mg base CX0 2 a.f_Sender_may_send fd_Sender_may_send ["self", "k"] (sp_Sender_may_send K a)) (B_Sender_may_send : Binds K fd_Sender_may_send ["self", "k"] []) : FnOk P w K mg base (L2N.CX P w) 3 a.f_Sender_sent fd ["self", "k"] (sp_Sender_sent K a) := by
  refine Rp.okN (k := 2) F sc_Sender_sent (fun vs H Q E h => ?_) (fun cdv A outer s H vs Q E hr h => ⟨t_Sender_sent K a E, ?_, rd_Sender_sent T h⟩)
  · first | (obtain ⟨_, _, rfl, _⟩ := h; rfl) | (obtain ⟨_, _, _, rfl, _⟩ := h; rfl) | (obtain ⟨_, _, _, _, rfl, _⟩ := h; rfl) | (obtain ⟨_, _, _, _, _, rfl, _⟩ := h; rfl) | (obtain ⟨_, _, _, _, _, _, rfl, _⟩ := h; rfl) | (obtain ⟨_, _, _, _, _, _, _, rfl, _⟩ := h; rfl) | (obtain ⟨_, _, _, _, _, _, _, _, rfl, _⟩ := h; rfl) | (obtain ⟨_, _, _, _, _, _, _, _, _, rfl, _⟩ := h; rfl) | (obtain ⟨_, _, _, _, _, _, _, _, _, _, rfl, _⟩ := h; rfl) | (obtain ⟨_, _, _, _, _, _, _, _, _, _, _, rfl, _⟩ := h; rfl) | (obtain ⟨_, _, _, _, _, _, _, _, _, _, _, _, rfl, _⟩ := h; rfl) | (obtain ⟨_, _, _, _, _, _, _, _, _, _, _, _, _, rfl, _⟩ := h; rfl)
  · exact pss_cons (ps_if (pt_not (pt_val (pe_meth (pv 0) T.c_Sender T.mt_Sender_may_send G_Sender_may_send (hr.mono (by decide)) B_Sender_may_send .nil pass0 (pa_cons (pv 1) (pa_nil))))) (pss_one (L2N.ps_raise rfl (L2N.takes_of rfl rfl rfl rfl) (L2N.pmk_own PySem.F.excBase_ValueError T.x_NotNow T.g_NotNow T.k_NotNow (raises_own T.b_NotNow T.t_NotNow) (by exact rfl)))) (pss_nil)) (pss_cons (ps_if (pt_cmpR op_eq (pv 1) (pe_fld (pv 0) rfl) (nomark _)) (pss_one (ps_fld (pv 0) (pe_op op_add (pv 1) (pe_int)) rfl)) (pss_nil)) (pss_one (ps_ret (pe_op op_mod (pv 1) (pe_fld (pv 0) rfl)))))
theorem ok_Sender_heard {fd : FuncData} (F : Fun K "heard" "Sender.heard" s_Sender_heard a.f_Sender_heard fd) (T : Txt K mg a)  : FnOk P w K mg base CX0 1 a.f_Sender_heard fd ["self", "number"] (sp_Sender_heard K a) := by
  refine F.ok (k := 0) sc_Sender_heard (fun vs H Q E h => ?_) (fun cdv A outer s H vs Q E hr h => ⟨t_Sender_heard K a, ?_, rd_Sender_heard T h⟩)
  · first | (obtain ⟨_, _, rfl, _⟩ := h; rfl) | (obtain ⟨_, _, _, rfl, _⟩ := h; rfl) | (obtain ⟨_, _, _, _, rfl, _⟩ := h; rfl) | (obtain ⟨_, _, _, _, _, rfl, _⟩ := h; rfl) | (obtain ⟨_, _, _, _, _, _, rfl, _⟩ := h; rfl) | (obtain ⟨_, _, _, _, _, _, _, rfl, _⟩ := h; rfl) | (obtain ⟨_, _, _, _, _, _, _, _, rfl, _⟩ := h; rfl) | (obtain ⟨_, _, _, _, _, _, _, _, _, rfl, _⟩ := h; rfl) | (obtain ⟨_, _, _, _, _, _, _, _, _, _, rfl, _⟩ := h; rfl) | (obtain ⟨_, _, _, _, _, _, _, _, _, _, _, rfl, _⟩ := h; rfl) | (obtain ⟨_, _, _, _, _, _, _, _, _, _, _, _, rfl, _⟩ := h; rfl) | (obtain ⟨_, _, _, _, _, _, _, _, _, _, _, _, _, rfl, _⟩ := h; rfl)
  · exact pss_cons (ps_set (i := 2) sc_Sender_heard.nd rfl (Or.inl rfl) (pe_op op_mod (pe_op op_sub (pv 1) (pe_fld (pv 0) rfl)) (pe_fld (pv 0) rfl))) (pss_one (ps_if (pt_cmpR op_le (pe_op op_add (pe_fld (pv 0) rfl) (pv 2)) (pe_fld (pv 0) rfl) (nomark _)) (pss_one (ps_fld (pv 0) (pe_op op_add (pe_fld (pv 0) rfl) (pv 2)) rfl)) (pss_nil)))
theorem ok_Sender_may_send {fd fd_is_whole : FuncData} (F : Fun K "_may_send" "Sender._may_send" s_Sender_may_send a.f_Sender_may_send fd) (T : Txt K mg a) (G_is_whole : FnOk P w K mg base CX0 1 a.f_is_whole fd_is_whole ["thing"] (sp_is_whole K a)) (B_is_whole : Binds K fd_is_whole ["thing"] []) : FnOk P w K mg base CX0 2 a.f_Sender_may_send fd ["self", "k"] (sp_Sender_may_send K a) := by
  refine F.ok (k := 1) sc_Sender_may_send (fun vs H Q E h => ?_) (fun cdv A outer s H vs Q E hr h => ⟨t_Sender_may_send K a, ?_, rd_Sender_may_send T h⟩)
  · first | (obtain ⟨_, _, rfl, _⟩ := h; rfl) | (obtain ⟨_, _, _, rfl, _⟩ := h; rfl) | (obtain ⟨_, _, _, _, rfl, _⟩ := h; rfl) | (obtain ⟨_, _, _, _, _, rfl, _⟩ := h; rfl) | (obtain ⟨_, _, _, _, _, _, rfl, _⟩ := h; rfl) | (obtain ⟨_, _, _, _, _, _, _, rfl, _⟩ := h; rfl) | (obtain ⟨_, _, _, _, _, _, _, _, rfl, _⟩ := h; rfl) | (obtain ⟨_, _, _, _, _, _, _, _, _, rfl, _⟩ := h; rfl) | (obtain ⟨_, _, _, _, _, _, _, _, _, _, rfl, _⟩ := h; rfl) | (obtain ⟨_, _, _, _, _, _, _, _, _, _, _, rfl, _⟩ := h; rfl) | (obtain ⟨_, _, _, _, _, _, _, _, _, _, _, _, rfl, _⟩ := h; rfl) | (obtain ⟨_, _, _, _, _, _, _, _, _, _, _, _, _, rfl, _⟩ := h; rfl)
  · exact pss_cons (ps_if (PW.pt (pw_or (pt_not (pt_val (pe_call G_is_whole (hr.mono (by decide)) rfl T.g_is_whole T.k_is_whole B_is_whole .nil pass0 (pa_cons (pv 1) (pa_nil))))) (pw_or (pt_cmpR op_lt (pv 1) (pe_fld (pv 0) rfl) (nomark _)) (pw_or1 (pt_cmpR op_gt (pv 1) (pe_fld (pv 0) rfl) (nomark _)))))) (pss_one (ps_ret (pe_bl))) (pss_nil)) (pss_one (ps_ret (pe_and (pe_cmpR op_lt (pv 1) (pe_op op_add (pe_fld (pv 0) rfl) (pe_fld (pv 0) rfl)) (nomark _)) (pe_one (pe_cmpR op_lt (pv 1) (pe_fld (pv 0) rfl) (nomark _))))))
theorem ok_l_at {fd : FuncData} (F : Fun K "_law_at" "_law_at" s_l_at a.f_l_at fd) (T : Txt K mg a)  : FnOk P w K mg base CX0 1 a.f_l_at fd ["_law_script", "_law_k"] (sp_l_at K a) := by
  refine F.ok (k := 0) sc_l_at (fun vs H Q E h => ?_) (fun cdv A outer s H vs Q E hr h => ⟨t_l_at K a, ?_, rd_l_at T h⟩)
  · first | (obtain ⟨_, _, rfl, _⟩ := h; rfl) | (obtain ⟨_, _, _, rfl, _⟩ := h; rfl) | (obtain ⟨_, _, _, _, rfl, _⟩ := h; rfl) | (obtain ⟨_, _, _, _, _, rfl, _⟩ := h; rfl) | (obtain ⟨_, _, _, _, _, _, rfl, _⟩ := h; rfl) | (obtain ⟨_, _, _, _, _, _, _, rfl, _⟩ := h; rfl) | (obtain ⟨_, _, _, _, _, _, _, _, rfl, _⟩ := h; rfl) | (obtain ⟨_, _, _, _, _, _, _, _, _, rfl, _⟩ := h; rfl) | (obtain ⟨_, _, _, _, _, _, _, _, _, _, rfl, _⟩ := h; rfl) | (obtain ⟨_, _, _, _, _, _, _, _, _, _, _, rfl, _⟩ := h; rfl) | (obtain ⟨_, _, _, _, _, _, _, _, _, _, _, _, rfl, _⟩ := h; rfl) | (obtain ⟨_, _, _, _, _, _, _, _, _, _, _, _, _, rfl, _⟩ := h; rfl)
  · exact pss_cons (ps_if (pt_cmpR op_lt (pv 1) (pe_callB Rp.call_lenA (by rfl) T.n_len (by decide +kernel) (pa_cons (pv 0) (pa_nil))) (nomark _)) (pss_one (ps_ret (pe_ix ix_list (pv 0) (pv 1) (fun _ _ => rfl)))) (pss_nil)) (pss_one (ps_ret (pe_int)))
theorem ok_l_mixed {fd : FuncData} (F : Fun K "_law_mixed" "_law_mixed" s_l_mixed a.f_l_mixed fd) (T : Txt K mg a)  : FnOk P w K mg base CX0 1 a.f_l_mixed fd ["_law_cell", "_law_k"] (sp_l_mixed K a) := by
  refine F.ok (k := 0) sc_l_mixed (fun vs H Q E h => ?_) (fun cdv A outer s H vs Q E hr h => ⟨t_l_mixed K a, ?_, rd_l_mixed T h⟩)
  · first | (obtain ⟨_, _, rfl, _⟩ := h; rfl) | (obtain ⟨_, _, _, rfl, _⟩ := h; rfl) | (obtain ⟨_, _, _, _, rfl, _⟩ := h; rfl) | (obtain ⟨_, _, _, _, _, rfl, _⟩ := h; rfl) | (obtain ⟨_, _, _, _, _, _, rfl, _⟩ := h; rfl) | (obtain ⟨_, _, _, _, _, _, _, rfl, _⟩ := h; rfl) | (obtain ⟨_, _, _, _, _, _, _, _, rfl, _⟩ := h; rfl) | (obtain ⟨_, _, _, _, _, _, _, _, _, rfl, _⟩ := h; rfl) | (obtain ⟨_, _, _, _, _, _, _, _, _, _, rfl, _⟩ := h; rfl) | (obtain ⟨_, _, _, _, _, _, _, _, _, _, _, rfl, _⟩ := h; rfl) | (obtain ⟨_, _, _, _, _, _, _, _, _, _, _, _, rfl, _⟩ := h; rfl) | (obtain ⟨_, _, _, _, _, _, _, _, _, _, _, _, _, rfl, _⟩ := h; rfl)
  · exact pss_one (ps_ret (pe_op op_mod (pe_op op_add (pe_op op_mul (pv 0) (pe_int)) (pe_op op_mul (pe_op op_mul (pe_int) (pe_op op_add (pv 1) (pe_int))) (pe_op op_add (pv 1) (pe_int)))) (pe_int)))
theorem ok_l_whole {fd : FuncData} (F : Fun K "_law_whole" "_law_whole" s_l_whole a.f_l_whole fd) (T : Txt K mg a)  : FnOk P w K mg base CX0 1 a.f_l_whole fd ["_law_thing"] (sp_l_whole K a) := by
  refine F.ok (k := 0) sc_l_whole (fun vs H Q E h => ?_) (fun cdv A outer s H vs Q E hr h => ⟨t_l_whole K a, ?_, rd_l_whole T h⟩)
  · first | (obtain ⟨_, _, rfl, _⟩ := h; rfl) | (obtain ⟨_, _, _, rfl, _⟩ := h; rfl) | (obtain ⟨_, _, _, _, rfl, _⟩ := h; rfl) | (obtain ⟨_, _, _, _, _, rfl, _⟩ := h; rfl) | (obtain ⟨_, _, _, _, _, _, rfl, _⟩ := h; rfl) | (obtain ⟨_, _, _, _, _, _, _, rfl, _⟩ := h; rfl) | (obtain ⟨_, _, _, _, _, _, _, _, rfl, _⟩ := h; rfl) | (obtain ⟨_, _, _, _, _, _, _, _, _, rfl, _⟩ := h; rfl) | (obtain ⟨_, _, _, _, _, _, _, _, _, _, rfl, _⟩ := h; rfl) | (obtain ⟨_, _, _, _, _, _, _, _, _, _, _, rfl, _⟩ := h; rfl) | (obtain ⟨_, _, _, _, _, _, _, _, _, _, _, _, rfl, _⟩ := h; rfl) | (obtain ⟨_, _, _, _, _, _, _, _, _, _, _, _, _, rfl, _⟩ := h; rfl)
  · exact pss_one (ps_ret (pe_and (pe_callB call_isi (by rfl) T.n_isinstance (by decide +kernel) (pa_cons (pv 0) (pa_cons (pe_bltn (v := .ty "int") rfl T.n_int (by decide +kernel) rfl) pa_nil))) (pe_one (pe_not (pe_callB call_isi (by rfl) T.n_isinstance (by decide +kernel) (pa_cons (pv 0) (pa_cons (pe_bltn (v := .ty "bool") rfl T.n_bool (by decide +kernel) rfl) pa_nil)))))))
theorem ok_l_word {fd : FuncData} (F : Fun K "_law_word" "_law_word" s_l_word a.f_l_word fd) (T : Txt K mg a)  : ∀ (er : Er) (p : Addr × Obj), Zc (.ref (erA a er)) none p.2 → (∃ vs, p.2.data = .fields vs) → p.1 = p.1 → Rp.FnAt p P w K mg base 1 a.f_l_word fd ["_law_error"] (sp_l_word K a er p.1) := by
  rintro er ⟨eA, oe⟩ hz hf -
  refine Rp.okAt (p := (eA, oe)) (k := 0) F sc_l_word (fun vs H Q E h => ?_) (fun cdv A outer s H vs Q E hot1 hr h => ⟨t_l_word K a er eA, ?_, rd_l_word T h⟩)
  · first | (obtain ⟨_, _, rfl, _⟩ := h; rfl) | (obtain ⟨_, _, _, rfl, _⟩ := h; rfl) | (obtain ⟨_, _, _, _, rfl, _⟩ := h; rfl) | (obtain ⟨_, _, _, _, _, rfl, _⟩ := h; rfl) | (obtain ⟨_, _, _, _, _, _, rfl, _⟩ := h; rfl) | (obtain ⟨_, _, _, _, _, _, _, rfl, _⟩ := h; rfl) | (obtain ⟨_, _, _, _, _, _, _, _, rfl, _⟩ := h; rfl) | (obtain ⟨_, _, _, _, _, _, _, _, _, rfl, _⟩ := h; rfl) | (obtain ⟨_, _, _, _, _, _, _, _, _, _, rfl, _⟩ := h; rfl) | (obtain ⟨_, _, _, _, _, _, _, _, _, _, _, rfl, _⟩ := h; rfl) | (obtain ⟨_, _, _, _, _, _, _, _, _, _, _, _, rfl, _⟩ := h; rfl) | (obtain ⟨_, _, _, _, _, _, _, _, _, _, _, _, _, rfl, _⟩ := h; rfl)
  · have hp : (eA, oe) ∈ [(eA, oe)] := List.mem_cons_self
    have hot : L2H.HotC (L2H.cxH CX0 P w K mg base N_l_word "_law_word" (defScope s_l_word) a.f_l_word cdv A outer s H E (eA, oe)).nox := ⟨(eA, oe), hot1, hp⟩
    exact pss_cons (ps_set (i := 1) sc_l_word.nd rfl (Or.inl rfl) (pe_op Rp.op_strRep (pe_str) (pe_callTy call_int1 (by rfl) T.n_int (by decide +kernel) (pa_cons (pe_callB (Rp.call_isP (T.ec er) hz hf hp) (by rfl) T.n_isinstance (by decide +kernel) (pa_cons (pv 0) (pa_cons (pe_glob rfl T.g_NotNow rfl) pa_nil))) (pa_nil))))) (pss_cons (L2H.ps_forH PassesOwn.never hot (Rp.pi_lstH (pe_lst (pa_cons (pe_callB (Rp.call_isP (T.ec er) hz hf hp) (by rfl) T.n_isinstance (by decide +kernel) (pa_cons (pv 0) (pa_cons (pe_glob rfl T.g_BadBounds rfl) pa_nil))) (pa_cons (pe_callB (Rp.call_isP (T.ec er) hz hf hp) (by rfl) T.n_isinstance (by decide +kernel) (pa_cons (pv 0) (pa_cons (pe_glob rfl T.g_BadRing rfl) pa_nil))) (pa_cons (pe_callB (Rp.call_isP (T.ec er) hz hf hp) (by rfl) T.n_isinstance (by decide +kernel) (pa_cons (pv 0) (pa_cons (pe_glob rfl T.g_BadTexts rfl) pa_nil))) (pa_nil)))))) (pg_name (i := 2) sc_l_word.nd rfl (Or.inl rfl)) (pss_one (ps_set (i := 1) sc_l_word.nd rfl (Or.inl rfl) (pe_op op_add_str (pv 1) (pe_op Rp.op_strRep (pe_str) (pe_callTy call_int1 (by rfl) T.n_int (by decide +kernel) (pa_cons (pv 2) (pa_nil)))))))) (pss_cons (L2H.ps_forH PassesOwn.never hot (Rp.pi_lstH (pe_lst (pa_cons (pe_callB (Rp.call_isP (T.ec er) hz hf hp) (by rfl) T.n_isinstance (by decide +kernel) (pa_cons (pv 0) (pa_cons (pe_glob rfl T.g_BadStep rfl) pa_nil))) (pa_cons (pe_callB (Rp.call_isP (T.ec er) hz hf hp) (by rfl) T.n_isinstance (by decide +kernel) (pa_cons (pv 0) (pa_cons (pe_glob rfl T.g_NoLetter rfl) pa_nil))) (pa_cons (pe_callB (Rp.call_isP (T.ec er) hz hf hp) (by rfl) T.n_isinstance (by decide +kernel) (pa_cons (pv 0) (pa_cons (pe_glob rfl T.g_Safe rfl) pa_nil))) (pa_nil)))))) (pg_name (i := 2) sc_l_word.nd rfl (Or.inl rfl)) (pss_one (ps_set (i := 1) sc_l_word.nd rfl (Or.inl rfl) (pe_op op_add_str (pv 1) (pe_op Rp.op_strRep (pe_str) (pe_callTy call_int1 (by rfl) T.n_int (by decide +kernel) (pa_cons (pv 2) (pa_nil)))))))) (pss_one (ps_ret (pe_op Rp.op_strRep (pe_op op_add_str (pv 1) (pe_op Rp.op_strRep (pe_str) (pe_callTy call_int1 (by rfl) T.n_int (by decide +kernel) (pa_cons (pe_callB (Rp.call_isP (T.ec er) hz hf hp) (by rfl) T.n_isinstance (by decide +kernel) (pa_cons (pv 0) (pa_cons (pe_glob rfl T.g_NoLine rfl) pa_nil))) (pa_nil))))) (pe_callTy call_int1 (by rfl) T.n_int (by decide +kernel) (pa_cons (pe_callB (Rp.call_isP (T.ec er) hz hf hp) (by rfl) T.n_isinstance (by decide +kernel) (pa_cons (pv 0) (pa_cons (pe_bltn (v := .ty "ValueError") rfl T.n_ValueError (by decide +kernel) rfl) pa_nil))) (pa_nil))))))))
theorem ok_l_said {fd fd_Sender_sent fd_l_word : FuncData} (F : Fun K "_law_said" "_law_said" s_l_said a.f_l_said fd) (T : Txt K mg a) (G_Sender_sent : FnOk P w K mg base (L2N.CX P w) 3 a.f_Sender_sent fd_Sender_sent ["self", "k"] (sp_Sender_sent K a)) (B_Sender_sent : Binds K fd_Sender_sent ["self", "k"] []) (G_l_word : ∀ (er : Er) (p : Addr × Obj), Zc (.ref (erA a er)) none p.2 → (∃ vs, p.2.data = .fields vs) → p.1 = p.1 → Rp.FnAt p P w K mg base 1 a.f_l_word fd_l_word ["_law_error"] (sp_l_word K a er p.1)) (B_l_word : Binds K fd_l_word ["_law_error"] []) : FnOk P w K mg base CX0 4 a.f_l_said fd ["_law_sender", "_law_k"] (sp_l_said K a) := by
  refine F.ok (k := 3) sc_l_said (fun vs H Q E h => ?_) (fun cdv A outer s H vs Q E hr h => ⟨t_l_said K a, ?_, rd_l_said T h⟩)
  · first | (obtain ⟨_, _, rfl, _⟩ := h; rfl) | (obtain ⟨_, _, _, rfl, _⟩ := h; rfl) | (obtain ⟨_, _, _, _, rfl, _⟩ := h; rfl) | (obtain ⟨_, _, _, _, _, rfl, _⟩ := h; rfl) | (obtain ⟨_, _, _, _, _, _, rfl, _⟩ := h; rfl) | (obtain ⟨_, _, _, _, _, _, _, rfl, _⟩ := h; rfl) | (obtain ⟨_, _, _, _, _, _, _, _, rfl, _⟩ := h; rfl) | (obtain ⟨_, _, _, _, _, _, _, _, _, rfl, _⟩ := h; rfl) | (obtain ⟨_, _, _, _, _, _, _, _, _, _, rfl, _⟩ := h; rfl) | (obtain ⟨_, _, _, _, _, _, _, _, _, _, _, rfl, _⟩ := h; rfl) | (obtain ⟨_, _, _, _, _, _, _, _, _, _, _, _, rfl, _⟩ := h; rfl) | (obtain ⟨_, _, _, _, _, _, _, _, _, _, _, _, _, rfl, _⟩ := h; rfl)
  · exact pss_one (L2N.ps_try_as (i := 2) (tb := fun W => b1_l_said K a W) (ts := b2_l_said K a) (Wout := (fun _ _ _ _ => False)) rfl rfl sc_l_said.nd rfl rfl ⟨rfl, by decide, .inl T.g_PostError⟩ Rp.takes0N (fun W pn xe tk _ => pss_one (ps_ret (pe_tup (pa_cons (pe_str) (pa_cons (by exact (Rp.pe_methS (pv 0) T.c_Sender T.mt_Sender_sent G_Sender_sent (hr.mono (by decide)) B_Sender_sent (fun σ => L2N.passAt tk σ) (by exact (pa_cons (pv 1) (pa_nil))))) (pa_nil)))))) (fun eA oe eC eD0 pn hz hf => Rp.pss_ex (c := fun er => eC = Value.ref (erA a er) ∧ eD0 = none) (fun er hc => by obtain ⟨rfl, rfl⟩ := hc; exact pss_one (ps_ret (pe_tup (pa_cons (pe_str) (pa_cons (Rp.pe_callAt (G_l_word er (eA, oe) hz.zc hf rfl) (Rp.roomMark (L2H.roomH_of (hr.mono (by decide)))) List.mem_cons_self (Rp.hot_of hz hf) rfl T.g_l_word T.k_l_word B_l_word (pa_cons (pv 2) (pa_nil))) (pa_nil))))))))
theorem ok_l_span {fd fd_Sender_span fd_l_whole : FuncData} (F : Fun K "_law_span" "_law_span" s_l_span a.f_l_span fd) (T : Txt K mg a) (G_Sender_span : FnOk P w K mg base CX0 1 a.f_Sender_span fd_Sender_span ["self"] (sp_Sender_span K a)) (B_Sender_span : Binds K fd_Sender_span ["self"] []) (G_l_whole : FnOk P w K mg base CX0 1 a.f_l_whole fd_l_whole ["_law_thing"] (sp_l_whole K a)) (B_l_whole : Binds K fd_l_whole ["_law_thing"] []) : FnOk P w K mg base CX0 2 a.f_l_span fd ["_law_sender", "_law_base", "_law_top"] (sp_l_span K a) := by
  refine F.ok (k := 1) sc_l_span (fun vs H Q E h => ?_) (fun cdv A outer s H vs Q E hr h => ⟨t_l_span K a, ?_, rd_l_span T h⟩)
  · first | (obtain ⟨_, _, rfl, _⟩ := h; rfl) | (obtain ⟨_, _, _, rfl, _⟩ := h; rfl) | (obtain ⟨_, _, _, _, rfl, _⟩ := h; rfl) | (obtain ⟨_, _, _, _, _, rfl, _⟩ := h; rfl) | (obtain ⟨_, _, _, _, _, _, rfl, _⟩ := h; rfl) | (obtain ⟨_, _, _, _, _, _, _, rfl, _⟩ := h; rfl) | (obtain ⟨_, _, _, _, _, _, _, _, rfl, _⟩ := h; rfl) | (obtain ⟨_, _, _, _, _, _, _, _, _, rfl, _⟩ := h; rfl) | (obtain ⟨_, _, _, _, _, _, _, _, _, _, rfl, _⟩ := h; rfl) | (obtain ⟨_, _, _, _, _, _, _, _, _, _, _, rfl, _⟩ := h; rfl) | (obtain ⟨_, _, _, _, _, _, _, _, _, _, _, _, rfl, _⟩ := h; rfl) | (obtain ⟨_, _, _, _, _, _, _, _, _, _, _, _, _, rfl, _⟩ := h; rfl)
  · exact pss_cons (ps_set (i := 3) sc_l_span.nd rfl (Or.inl rfl) (pe_meth0 (pv 0) T.c_Sender T.mt_Sender_span G_Sender_span (hr.mono (by decide)) B_Sender_span .nil pass0 )) (pss_one (ps_ret (pe_and (pe_callB call_isi (by rfl) T.n_isinstance (by decide +kernel) (pa_cons (pv 3) (pa_cons (pe_bltn (v := .ty "tuple") rfl T.n_tuple (by decide +kernel) rfl) pa_nil))) (pe_and (pe_cmpR (op_eqD hr.units) (pv 3) (pe_tup (pa_cons (pv 1) (pa_cons (pv 2) (pa_nil)))) (nomark _)) (pe_and (pe_call G_l_whole (hr.mono (by decide)) rfl T.g_l_whole T.k_l_whole B_l_whole .nil pass0 (pa_cons (pe_ix ix_tup (pv 3) (pe_int) (fun _ _ => rfl)) (pa_nil))) (pe_one (pe_call G_l_whole (hr.mono (by decide)) rfl T.g_l_whole T.k_l_whole B_l_whole .nil pass0 (pa_cons (pe_ix ix_tup (pv 3) (pe_int) (fun _ _ => rfl)) (pa_nil)))))))))
theorem ok_law {fd fd_Sender_init fd_Sender_heard fd_l_at fd_l_mixed fd_l_whole fd_l_said fd_l_span : FuncData} (F : Fun K "law" "law" s_law a.f_law fd) (T : Txt K mg a) (G_Sender_init : FnOk P w K mg base CX0 1 a.f_Sender_init fd_Sender_init ["self", "window", "ring", "many"] (sp_Sender_init K a)) (B_Sender_init : Binds K fd_Sender_init ["self", "window", "ring", "many"] []) (G_Sender_heard : FnOk P w K mg base CX0 1 a.f_Sender_heard fd_Sender_heard ["self", "number"] (sp_Sender_heard K a)) (B_Sender_heard : Binds K fd_Sender_heard ["self", "number"] []) (G_l_at : FnOk P w K mg base CX0 1 a.f_l_at fd_l_at ["_law_script", "_law_k"] (sp_l_at K a)) (B_l_at : Binds K fd_l_at ["_law_script", "_law_k"] []) (G_l_mixed : FnOk P w K mg base CX0 1 a.f_l_mixed fd_l_mixed ["_law_cell", "_law_k"] (sp_l_mixed K a)) (B_l_mixed : Binds K fd_l_mixed ["_law_cell", "_law_k"] []) (G_l_whole : FnOk P w K mg base CX0 1 a.f_l_whole fd_l_whole ["_law_thing"] (sp_l_whole K a)) (B_l_whole : Binds K fd_l_whole ["_law_thing"] []) (G_l_said : FnOk P w K mg base CX0 4 a.f_l_said fd_l_said ["_law_sender", "_law_k"] (sp_l_said K a)) (B_l_said : Binds K fd_l_said ["_law_sender", "_law_k"] []) (G_l_span : FnOk P w K mg base CX0 2 a.f_l_span fd_l_span ["_law_sender", "_law_base", "_law_top"] (sp_l_span K a)) (B_l_span : Binds K fd_l_span ["_law_sender", "_law_base", "_law_top"] []) : FnOk P w K mg base CX0 5 a.f_law fd ["_law_script"] (sp_law K a) := by
  refine F.ok (k := 4) sc_law (fun vs H Q E h => ?_) (fun cdv A outer s H vs Q E hr h => ⟨t_law K a, ?_, rd_law T h⟩)
  · first | (obtain ⟨_, _, rfl, _⟩ := h; rfl) | (obtain ⟨_, _, _, rfl, _⟩ := h; rfl) | (obtain ⟨_, _, _, _, rfl, _⟩ := h; rfl) | (obtain ⟨_, _, _, _, _, rfl, _⟩ := h; rfl) | (obtain ⟨_, _, _, _, _, _, rfl, _⟩ := h; rfl) | (obtain ⟨_, _, _, _, _, _, _, rfl, _⟩ := h; rfl) | (obtain ⟨_, _, _, _, _, _, _, _, rfl, _⟩ := h; rfl) | (obtain ⟨_, _, _, _, _, _, _, _, _, rfl, _⟩ := h; rfl) | (obtain ⟨_, _, _, _, _, _, _, _, _, _, rfl, _⟩ := h; rfl) | (obtain ⟨_, _, _, _, _, _, _, _, _, _, _, rfl, _⟩ := h; rfl) | (obtain ⟨_, _, _, _, _, _, _, _, _, _, _, _, rfl, _⟩ := h; rfl) | (obtain ⟨_, _, _, _, _, _, _, _, _, _, _, _, _, rfl, _⟩ := h; rfl)
  · exact pss_cons (ps_set (i := 1) sc_law.nd rfl (Or.inl rfl) (pe_call G_l_mixed (hr.mono (by decide)) rfl T.g_l_mixed T.k_l_mixed B_l_mixed .nil pass0 (pa_cons (pe_call G_l_at (hr.mono (by decide)) rfl T.g_l_at T.k_l_at B_l_at .nil pass0 (pa_cons (pv 0) (pa_cons (pe_int) (pa_nil)))) (pa_cons (pe_int) (pa_nil))))) (pss_cons (ps_set (i := 2) sc_law.nd rfl (Or.inl rfl) (pe_op op_add (pe_int) (pe_op op_mod (pv 1) (pe_ix ix_list (pe_lst (pa_cons (pe_int) (pa_cons (pe_int) (pa_nil)))) (pe_op op_mod (pe_op op_fdiv (pv 1) (pe_int)) (pe_int)) (fun _ _ => rfl))))) (pss_cons (ps_set (i := 3) sc_law.nd rfl (Or.inl rfl) (pe_op op_add (pe_int) (pe_op op_mod (pe_call G_l_mixed (hr.mono (by decide)) rfl T.g_l_mixed T.k_l_mixed B_l_mixed .nil pass0 (pa_cons (pe_call G_l_at (hr.mono (by decide)) rfl T.g_l_at T.k_l_at B_l_at .nil pass0 (pa_cons (pv 0) (pa_cons (pe_int) (pa_nil)))) (pa_cons (pe_int) (pa_nil)))) (pe_ix ix_list (pe_lst (pa_cons (pe_op op_add (pv 2) (pe_int)) (pa_cons (pe_int) (pa_nil)))) (pe_op op_mod (pe_op op_fdiv (pv 1) (pe_int)) (pe_int)) (fun _ _ => rfl))))) (pss_cons (ps_set (i := 4) sc_law.nd rfl (Or.inl rfl) (pe_op op_mod (pe_call G_l_mixed (hr.mono (by decide)) rfl T.g_l_mixed T.k_l_mixed B_l_mixed .nil pass0 (pa_cons (pe_call G_l_at (hr.mono (by decide)) rfl T.g_l_at T.k_l_at B_l_at .nil pass0 (pa_cons (pv 0) (pa_cons (pe_int) (pa_nil)))) (pa_cons (pe_int) (pa_nil)))) (pe_int))) (pss_cons (ps_set (i := 5) sc_law.nd rfl (Or.inl rfl) (pe_make T.mk_Sender G_Sender_init (hr.mono (by decide)) rfl T.g_Sender B_Sender_init .nil pass0 (pa_cons (pv 2) (pa_cons (pv 3) (pa_cons (pv 4) (pa_nil)))))) (pss_cons (ps_set (i := 6) sc_law.nd rfl (Or.inl rfl) (pe_make T.mk_Sender G_Sender_init (hr.mono (by decide)) rfl T.g_Sender B_Sender_init .nil pass0 (pa_cons (pv 2) (pa_cons (pv 3) (pa_cons (pv 4) (pa_nil)))))) (pss_cons (ps_set (i := 7) sc_law.nd rfl (Or.inl rfl) (pe_int)) (pss_cons (ps_set (i := 8) sc_law.nd rfl (Or.inl rfl) (pe_int)) (pss_cons (ps_if (pt_not (pt_val (pe_call G_l_span (hr.mono (by decide)) rfl T.g_l_span T.k_l_span B_l_span .nil pass0 (pa_cons (pv 5) (pa_cons (pe_int) (pa_cons (pe_int) (pa_nil))))))) (pss_one (ps_ret (pe_bl))) (pss_nil)) (pss_cons (ps_for PassesOwn.never rfl (pi_list (pe_slice sl_list (pv 0) (po_some (pe_int)) (po_some (pe_int)))) (pg_name (i := 9) sc_law.nd rfl (Or.inl rfl)) (pss_cons (ps_set (i := 10) sc_law.nd rfl (Or.inl rfl) (pe_op op_fdiv (pv 9) (pe_int))) (pss_cons (ps_if (pt_cmpR op_lt (pe_op op_mod (pv 9) (pe_int)) (pe_int) (nomark _)) (pss_cons (ps_set (i := 11) sc_law.nd rfl (Or.inl rfl) (pe_lst (pa_cons (pv 8) (pa_cons (pe_op op_add (pv 7) (pe_op op_mod (pe_op op_fdiv (pv 10) (pe_int)) (pv 2))) (pa_cons (pe_op op_sub (pv 7) (pe_int)) (pa_cons (pe_op op_add (pv 7) (pv 2)) (pa_cons (pe_op op_add (pv 8) (pe_int)) (pa_cons (pv 4) (pa_nil))))))))) (pss_cons (ps_set (i := 12) sc_law.nd rfl (Or.inl rfl) (pe_ix ix_list (pv 11) (pe_ix ix_list (pe_lst (pa_cons (pe_int) (pa_cons (pe_int) (pa_cons (pe_int) (pa_cons (pe_int) (pa_cons (pe_int) (pa_cons (pe_int) (pa_cons (pe_int) (pa_cons (pe_int) (pa_nil)))))))))) (pe_op op_mod (pv 10) (pe_int)) (fun _ _ => rfl)) (fun _ _ => rfl))) (pss_one (ps_if (PW.pt (pw_and (Rp.pt_chn (pv 7) (Rp.pch_cons op_le (pv 12) (Rp.pch_last op_le (pv 8)))) (pw_and (pt_cmpR op_lt (pv 12) (pe_op op_add (pv 7) (pv 2)) (nomark _)) (pw_and1 (pt_cmpR op_lt (pv 12) (pv 4) (nomark _)))))) (pss_cons (ps_set (i := 13) sc_law.nd rfl (Or.inl rfl) (pe_call G_l_said (hr.mono (by decide)) rfl T.g_l_said T.k_l_said B_l_said .nil pass0 (pa_cons (pv 5) (pa_cons (pv 12) (pa_nil))))) (pss_cons (ps_if (PW.pt (pw_or (pt_cmpR (op_neD hr.units) (pv 13) (pe_tup (pa_cons (pe_str) (pa_cons (pe_op op_mod (pv 12) (pv 3)) (pa_nil)))) (nomark _)) (pw_or1 (pt_not (pt_val (pe_call G_l_whole (hr.mono (by decide)) rfl T.g_l_whole T.k_l_whole B_l_whole .nil pass0 (pa_cons (pe_ix ix_tup (pv 13) (pe_int) (fun _ _ => rfl)) (pa_nil)))))))) (pss_one (ps_ret (pe_bl))) (pss_nil)) (pss_one (ps_set (i := 8) sc_law.nd rfl (Or.inl rfl) (pe_callB (call_max2 rfl) (by rfl) T.n_max (by decide +kernel) (pa_cons (pv 8) (pa_cons (pe_op op_add (pv 12) (pe_int)) (pa_nil)))))))) (pss_one (ps_if (pt_cmpR (op_neD hr.units) (pe_call G_l_said (hr.mono (by decide)) rfl T.g_l_said T.k_l_said B_l_said .nil pass0 (pa_cons (pv 5) (pa_cons (pv 12) (pa_nil)))) (pe_tup (pa_cons (pe_str) (pa_cons (pe_str) (pa_nil)))) (nomark _)) (pss_one (ps_ret (pe_bl))) (pss_nil))))))) (pss_cons (ps_set (i := 14) sc_law.nd rfl (Or.inl rfl) (pe_ix ix_list (pe_lst (pa_cons (pe_op op_mod (pv 10) (pv 3)) (pa_cons (pe_op op_mod (pe_op op_add (pv 7) (pe_op op_mod (pe_op op_fdiv (pv 10) (pe_int)) (pe_op op_add (pe_op op_sub (pv 8) (pv 7)) (pe_int)))) (pv 3)) (pa_nil)))) (pe_op op_mod (pe_op op_fdiv (pe_op op_mod (pv 10) (pe_int)) (pe_int)) (pe_int)) (fun _ _ => rfl))) (pss_cons (ps_set (i := 15) sc_law.nd rfl (Or.inl rfl) (pe_op op_mod (pe_op op_sub (pv 14) (pv 7)) (pv 3))) (pss_cons (ps_if (pt_cmpR op_notN (pe_meth (pv 5) T.c_Sender T.mt_Sender_heard G_Sender_heard (hr.mono (by decide)) B_Sender_heard .nil pass0 (pa_cons (pv 14) (pa_nil))) (pe_non) (nomark _)) (pss_one (ps_ret (pe_bl))) (pss_nil)) (pss_one (ps_if (pt_cmpR op_le (pe_op op_add (pv 7) (pv 15)) (pv 8) (nomark _)) (pss_one (ps_set (i := 7) sc_law.nd rfl (Or.inl rfl) (pe_op op_add (pv 7) (pv 15)))) (pss_nil))))))) (pss_one (ps_if (PW.pt (pw_and (pt_cmpR op_gt (pe_op op_mod (pe_op op_fdiv (pv 9) (pe_int)) (pe_int)) (pe_int) (nomark _)) (pw_and1 (pt_not (pt_val (pe_call G_l_span (hr.mono (by decide)) rfl T.g_l_span T.k_l_span B_l_span .nil pass0 (pa_cons (pv 5) (pa_cons (pv 7) (pa_cons (pv 8) (pa_nil)))))))))) (pss_one (ps_ret (pe_bl))) (pss_nil)))))) (pss_cons (ps_set (i := 16) sc_law.nd rfl (Or.inl rfl) (pe_ix ix_list (pe_lst (pa_cons (pe_non) (pa_cons (pe_bl) (pa_cons (pe_str) (pa_cons (pe_lst (pa_cons (pv 7) (pa_nil))) (pa_cons (pe_tup (pa_cons (pv 7) (pa_nil))) (pa_cons (pe_un un_neg (pe_int)) (pa_cons (pe_bl) (pa_cons (pe_op op_add (pv 7) (pe_op op_pow (pe_int) (pe_int))) (pa_nil)))))))))) (pe_op op_mod (pe_call G_l_at (hr.mono (by decide)) rfl T.g_l_at T.k_l_at B_l_at .nil pass0 (pa_cons (pv 0) (pa_cons (pe_int) (pa_nil)))) (pe_int)) (fun _ _ => rfl))) (pss_cons (ps_if (PW.pt (pw_or (pt_cmpR (op_neD hr.units) (pe_call G_l_said (hr.mono (by decide)) rfl T.g_l_said T.k_l_said B_l_said .nil pass0 (pa_cons (pv 5) (pa_cons (pv 16) (pa_nil)))) (pe_tup (pa_cons (pe_str) (pa_cons (pe_str) (pa_nil)))) (nomark _)) (pw_or1 (pt_not (pt_val (pe_call G_l_span (hr.mono (by decide)) rfl T.g_l_span T.k_l_span B_l_span .nil pass0 (pa_cons (pv 5) (pa_cons (pv 7) (pa_cons (pv 8) (pa_nil)))))))))) (pss_one (ps_ret (pe_bl))) (pss_nil)) (pss_one (ps_ret (pe_call G_l_span (hr.mono (by decide)) rfl T.g_l_span T.k_l_span B_l_span .nil pass0 (pa_cons (pv 6) (pa_cons (pe_int) (pa_cons (pe_int) (pa_nil))))))))))))))))))
end
theorem all_mk {l : PySem.W.OpenLaw} {w : World} {K : PySem.W.Frag} {h : Heap} {mg : Str → Option Value} {fa c_Sender e_PostError e_BadBounds e_BadRing e_BadTexts e_BadStep e_NotNow e_NoLetter e_Safe e_NoLine f_is_whole f_Sender_init f_Sender_span f_Sender_sent f_Sender_heard f_Sender_may_send f_l_at f_l_mixed f_l_whole f_l_word f_l_said f_l_span f_law : Addr} (X : K.In h) (G : h.Ns mainGlobals mg) (hfa : mg "law" = some (.ref fa))
    {od_is_whole an_is_whole od_Sender_init an_Sender_init od_Sender_span an_Sender_span od_Sender_sent an_Sender_sent od_Sender_heard an_Sender_heard od_Sender_may_send an_Sender_may_send od_l_at an_l_at od_l_mixed an_l_mixed od_l_whole an_l_whole od_l_word an_l_word od_l_said an_l_said od_l_span an_l_span od_law an_law : Option Addr} {sl_is_whole sl_Sender_init sl_Sender_span sl_Sender_sent sl_Sender_heard sl_Sender_may_send sl_l_at sl_l_mixed sl_l_whole sl_l_word sl_l_said sl_l_span sl_law : Array (Option Value)} {oc_is_whole kV_is_whole dc_is_whole pm_is_whole cd_is_whole ct_is_whole oc_Sender_init kV_Sender_init dc_Sender_init pm_Sender_init cd_Sender_init ct_Sender_init oc_Sender_span kV_Sender_span dc_Sender_span pm_Sender_span cd_Sender_span ct_Sender_span oc_Sender_sent kV_Sender_sent dc_Sender_sent pm_Sender_sent cd_Sender_sent ct_Sender_sent oc_Sender_heard kV_Sender_heard dc_Sender_heard pm_Sender_heard cd_Sender_heard ct_Sender_heard oc_Sender_may_send kV_Sender_may_send dc_Sender_may_send pm_Sender_may_send cd_Sender_may_send ct_Sender_may_send oc_l_at kV_l_at dc_l_at pm_l_at cd_l_at ct_l_at oc_l_mixed kV_l_mixed dc_l_mixed pm_l_mixed cd_l_mixed ct_l_mixed oc_l_whole kV_l_whole dc_l_whole pm_l_whole cd_l_whole ct_l_whole oc_l_word kV_l_word dc_l_word pm_l_word cd_l_word ct_l_word oc_l_said kV_l_said dc_l_said pm_l_said cd_l_said ct_l_said oc_l_span kV_l_span dc_l_span pm_l_span cd_l_span ct_l_span oc_law kV_law dc_law pm_law cd_law ct_law : Value}
    (aC_Sender : PySem.W.nsIn K mainGlobals "Sender" = some (some (.ref c_Sender)))
    (aE_PostError : PySem.W.nsIn K mainGlobals "PostError" = some (some (.ref e_PostError)))
    (aE_BadBounds : PySem.W.nsIn K mainGlobals "BadBounds" = some (some (.ref e_BadBounds)))
    (aE_BadRing : PySem.W.nsIn K mainGlobals "BadRing" = some (some (.ref e_BadRing)))
    (aE_BadTexts : PySem.W.nsIn K mainGlobals "BadTexts" = some (some (.ref e_BadTexts)))
    (aE_BadStep : PySem.W.nsIn K mainGlobals "BadStep" = some (some (.ref e_BadStep)))
    (aE_NotNow : PySem.W.nsIn K mainGlobals "NotNow" = some (some (.ref e_NotNow)))
    (aE_NoLetter : PySem.W.nsIn K mainGlobals "NoLetter" = some (some (.ref e_NoLetter)))
    (aE_Safe : PySem.W.nsIn K mainGlobals "Safe" = some (some (.ref e_Safe)))
    (aE_NoLine : PySem.W.nsIn K mainGlobals "NoLine" = some (some (.ref e_NoLine)))
    (a_is_whole : PySem.W.nsIn K mainGlobals "is_whole" = some (some (.ref f_is_whole)))
    (l_is_whole : K.lookup f_is_whole = some ⟨oc_is_whole, od_is_whole, .func (PySem.W.fnOf "is_whole" "is_whole" (defArgs s_is_whole) (defBody s_is_whole) (defScope s_is_whole) .none kV_is_whole dc_is_whole pm_is_whole an_is_whole cd_is_whole ct_is_whole), sl_is_whole⟩)
    (cd1_is_whole : PySem.W.codeIn K cd_is_whole "is_whole" = true)
    (kp_is_whole : PySem.W.keepIn K (.ref f_is_whole) = true)
    (a_Sender_init : PySem.W.findIn K (.ref c_Sender) "__init__" = some (some (.ref f_Sender_init)))
    (i_Sender_init : PySem.W.isFn K (.ref f_Sender_init) = true)
    (l_Sender_init : K.lookup f_Sender_init = some ⟨oc_Sender_init, od_Sender_init, .func (PySem.W.fnOf "__init__" "Sender.__init__" (defArgs s_Sender_init) (defBody s_Sender_init) (defScope s_Sender_init) .none kV_Sender_init dc_Sender_init pm_Sender_init an_Sender_init cd_Sender_init ct_Sender_init), sl_Sender_init⟩)
    (cd1_Sender_init : PySem.W.codeIn K cd_Sender_init "Sender.__init__" = true)
    (kp_Sender_init : PySem.W.keepIn K (.ref f_Sender_init) = true)
    (a_Sender_span : PySem.W.findIn K (.ref c_Sender) "span" = some (some (.ref f_Sender_span)))
    (i_Sender_span : PySem.W.isFn K (.ref f_Sender_span) = true)
    (l_Sender_span : K.lookup f_Sender_span = some ⟨oc_Sender_span, od_Sender_span, .func (PySem.W.fnOf "span" "Sender.span" (defArgs s_Sender_span) (defBody s_Sender_span) (defScope s_Sender_span) .none kV_Sender_span dc_Sender_span pm_Sender_span an_Sender_span cd_Sender_span ct_Sender_span), sl_Sender_span⟩)
    (cd1_Sender_span : PySem.W.codeIn K cd_Sender_span "Sender.span" = true)
    (kp_Sender_span : PySem.W.keepIn K (.ref f_Sender_span) = true)
    (a_Sender_sent : PySem.W.findIn K (.ref c_Sender) "sent" = some (some (.ref f_Sender_sent)))
    (i_Sender_sent : PySem.W.isFn K (.ref f_Sender_sent) = true)
    (l_Sender_sent : K.lookup f_Sender_sent = some ⟨oc_Sender_sent, od_Sender_sent, .func (PySem.W.fnOf "sent" "Sender.sent" (defArgs s_Sender_sent) (defBody s_Sender_sent) (defScope s_Sender_sent) .none kV_Sender_sent dc_Sender_sent pm_Sender_sent an_Sender_sent cd_Sender_sent ct_Sender_sent), sl_Sender_sent⟩)
    (cd1_Sender_sent : PySem.W.codeIn K cd_Sender_sent "Sender.sent" = true)
    (kp_Sender_sent : PySem.W.keepIn K (.ref f_Sender_sent) = true)
    (a_Sender_heard : PySem.W.findIn K (.ref c_Sender) "heard" = some (some (.ref f_Sender_heard)))
    (i_Sender_heard : PySem.W.isFn K (.ref f_Sender_heard) = true)
    (l_Sender_heard : K.lookup f_Sender_heard = some ⟨oc_Sender_heard, od_Sender_heard, .func (PySem.W.fnOf "heard" "Sender.heard" (defArgs s_Sender_heard) (defBody s_Sender_heard) (defScope s_Sender_heard) .none kV_Sender_heard dc_Sender_heard pm_Sender_heard an_Sender_heard cd_Sender_heard ct_Sender_heard), sl_Sender_heard⟩)
    (cd1_Sender_heard : PySem.W.codeIn K cd_Sender_heard "Sender.heard" = true)
    (kp_Sender_heard : PySem.W.keepIn K (.ref f_Sender_heard) = true)
    (a_Sender_may_send : PySem.W.findIn K (.ref c_Sender) "_may_send" = some (some (.ref f_Sender_may_send)))
    (i_Sender_may_send : PySem.W.isFn K (.ref f_Sender_may_send) = true)
    (l_Sender_may_send : K.lookup f_Sender_may_send = some ⟨oc_Sender_may_send, od_Sender_may_send, .func (PySem.W.fnOf "_may_send" "Sender._may_send" (defArgs s_Sender_may_send) (defBody s_Sender_may_send) (defScope s_Sender_may_send) .none kV_Sender_may_send dc_Sender_may_send pm_Sender_may_send an_Sender_may_send cd_Sender_may_send ct_Sender_may_send), sl_Sender_may_send⟩)
    (cd1_Sender_may_send : PySem.W.codeIn K cd_Sender_may_send "Sender._may_send" = true)
    (kp_Sender_may_send : PySem.W.keepIn K (.ref f_Sender_may_send) = true)
    (a_l_at : PySem.W.nsIn K mainGlobals "_law_at" = some (some (.ref f_l_at)))
    (l_l_at : K.lookup f_l_at = some ⟨oc_l_at, od_l_at, .func (PySem.W.fnOf "_law_at" "_law_at" (defArgs s_l_at) (defBody s_l_at) (defScope s_l_at) .none kV_l_at dc_l_at pm_l_at an_l_at cd_l_at ct_l_at), sl_l_at⟩)
    (cd1_l_at : PySem.W.codeIn K cd_l_at "_law_at" = true)
    (kp_l_at : PySem.W.keepIn K (.ref f_l_at) = true)
    (a_l_mixed : PySem.W.nsIn K mainGlobals "_law_mixed" = some (some (.ref f_l_mixed)))
    (l_l_mixed : K.lookup f_l_mixed = some ⟨oc_l_mixed, od_l_mixed, .func (PySem.W.fnOf "_law_mixed" "_law_mixed" (defArgs s_l_mixed) (defBody s_l_mixed) (defScope s_l_mixed) .none kV_l_mixed dc_l_mixed pm_l_mixed an_l_mixed cd_l_mixed ct_l_mixed), sl_l_mixed⟩)
    (cd1_l_mixed : PySem.W.codeIn K cd_l_mixed "_law_mixed" = true)
    (kp_l_mixed : PySem.W.keepIn K (.ref f_l_mixed) = true)
    (a_l_whole : PySem.W.nsIn K mainGlobals "_law_whole" = some (some (.ref f_l_whole)))
    (l_l_whole : K.lookup f_l_whole = some ⟨oc_l_whole, od_l_whole, .func (PySem.W.fnOf "_law_whole" "_law_whole" (defArgs s_l_whole) (defBody s_l_whole) (defScope s_l_whole) .none kV_l_whole dc_l_whole pm_l_whole an_l_whole cd_l_whole ct_l_whole), sl_l_whole⟩)
    (cd1_l_whole : PySem.W.codeIn K cd_l_whole "_law_whole" = true)
    (kp_l_whole : PySem.W.keepIn K (.ref f_l_whole) = true)
    (a_l_word : PySem.W.nsIn K mainGlobals "_law_word" = some (some (.ref f_l_word)))
    (l_l_word : K.lookup f_l_word = some ⟨oc_l_word, od_l_word, .func (PySem.W.fnOf "_law_word" "_law_word" (defArgs s_l_word) (defBody s_l_word) (defScope s_l_word) .none kV_l_word dc_l_word pm_l_word an_l_word cd_l_word ct_l_word), sl_l_word⟩)
    (cd1_l_word : PySem.W.codeIn K cd_l_word "_law_word" = true)
    (kp_l_word : PySem.W.keepIn K (.ref f_l_word) = true)
    (a_l_said : PySem.W.nsIn K mainGlobals "_law_said" = some (some (.ref f_l_said)))
    (l_l_said : K.lookup f_l_said = some ⟨oc_l_said, od_l_said, .func (PySem.W.fnOf "_law_said" "_law_said" (defArgs s_l_said) (defBody s_l_said) (defScope s_l_said) .none kV_l_said dc_l_said pm_l_said an_l_said cd_l_said ct_l_said), sl_l_said⟩)
    (cd1_l_said : PySem.W.codeIn K cd_l_said "_law_said" = true)
    (kp_l_said : PySem.W.keepIn K (.ref f_l_said) = true)
    (a_l_span : PySem.W.nsIn K mainGlobals "_law_span" = some (some (.ref f_l_span)))
    (l_l_span : K.lookup f_l_span = some ⟨oc_l_span, od_l_span, .func (PySem.W.fnOf "_law_span" "_law_span" (defArgs s_l_span) (defBody s_l_span) (defScope s_l_span) .none kV_l_span dc_l_span pm_l_span an_l_span cd_l_span ct_l_span), sl_l_span⟩)
    (cd1_l_span : PySem.W.codeIn K cd_l_span "_law_span" = true)
    (kp_l_span : PySem.W.keepIn K (.ref f_l_span) = true)
    (a_law : PySem.W.nsIn K mainGlobals "law" = some (some (.ref f_law)))
    (l_law : K.lookup f_law = some ⟨oc_law, od_law, .func (PySem.W.fnOf "law" "law" (defArgs s_law) (defBody s_law) (defScope s_law) .none kV_law dc_law pm_law an_law cd_law ct_law), sl_law⟩)
    (cd1_law : PySem.W.codeIn K cd_law "law" = true)
    (kp_law : PySem.W.keepIn K (.ref f_law) = true)
    (pg_Sender : PySem.W.plainGet K c_Sender Str.empty = true)
    (hd_Sender : PySem.W.hasDictIn K c_Sender = true)
    (po_Sender : PySem.W.plainOver K c_Sender = true)
    (sa_Sender : PySem.W.findIn K (.ref c_Sender) "__setattr__" = some (some (.builtin "object.__setattr__")))
    (mk_Sender : PySem.W.makesIn K c_Sender = true)
    (kc_Sender : PySem.W.keepIn K (.ref c_Sender) = true)
    (na_Sender_window : PySem.W.findIn K (.ref c_Sender) "_window" = some none)
    (na_Sender_ring : PySem.W.findIn K (.ref c_Sender) "_ring" = some none)
    (na_Sender_many : PySem.W.findIn K (.ref c_Sender) "_many" = some none)
    (na_Sender_base : PySem.W.findIn K (.ref c_Sender) "_base" = some none)
    (na_Sender_top : PySem.W.findIn K (.ref c_Sender) "_top" = some none)
    (n_ValueError : PySem.W.nsIn K mainGlobals "ValueError" = some none)
    (n_bool : PySem.W.nsIn K mainGlobals "bool" = some none)
    (n_int : PySem.W.nsIn K mainGlobals "int" = some none)
    (n_isinstance : PySem.W.nsIn K mainGlobals "isinstance" = some none)
    (n_len : PySem.W.nsIn K mainGlobals "len" = some none)
    (n_max : PySem.W.nsIn K mainGlobals "max" = some none)
    (n_tuple : PySem.W.nsIn K mainGlobals "tuple" = some none)
    (n_type : PySem.W.nsIn K mainGlobals "type" = some none)
    (x_NotNow : PySem.W.excIn K e_NotNow [.type "ValueError", .type "Exception", .type "BaseException", .type "object"] "ValueError.__new__" = true)
    (k_NotNow : PySem.W.keepIn K (.ref e_NotNow) = true)
    (b_NotNow : PySem.W.subIn K (.ref e_NotNow) (.type "BaseException") = some true)
    (t_NotNow : PySem.W.typeIn K (.ref e_NotNow) = some (.type "type"))
    (hg_NotNow : PySem.W.findIn K (.ref e_NotNow) "__getattribute__" = some (some (.builtin "BaseException.__getattribute__")))
    (hk_NotNow : PySem.W.findIn K (.ref e_NotNow) "__getattr__" = some none)
    (hdd_NotNow : PySem.W.hasDictIn K e_NotNow = true)
    (ha_NotNow : PySem.W.findIn K (.ref e_NotNow) "__class__" = some (some (.builtin "object.__class__")))
    (hm_NotNow : PySem.W.mroIn K e_NotNow (.type "object") = some true)
    (sv_NotNow : PySem.W.subIn K (.ref e_NotNow) (.type "ValueError") = some true)
    (s_NotNow_PostError : PySem.W.subIn K (.ref e_NotNow) (.ref e_PostError) = some true)
    (d_NotNow_PostError : (Value.ref e_NotNow == Value.ref e_PostError) = false)
    (s_NotNow_BadBounds : PySem.W.subIn K (.ref e_NotNow) (.ref e_BadBounds) = some false)
    (d_NotNow_BadBounds : (Value.ref e_NotNow == Value.ref e_BadBounds) = false)
    (s_NotNow_BadRing : PySem.W.subIn K (.ref e_NotNow) (.ref e_BadRing) = some false)
    (d_NotNow_BadRing : (Value.ref e_NotNow == Value.ref e_BadRing) = false)
    (s_NotNow_BadTexts : PySem.W.subIn K (.ref e_NotNow) (.ref e_BadTexts) = some false)
    (d_NotNow_BadTexts : (Value.ref e_NotNow == Value.ref e_BadTexts) = false)
    (s_NotNow_BadStep : PySem.W.subIn K (.ref e_NotNow) (.ref e_BadStep) = some false)
    (d_NotNow_BadStep : (Value.ref e_NotNow == Value.ref e_BadStep) = false)
    (s_NotNow_NotNow : PySem.W.subIn K (.ref e_NotNow) (.ref e_NotNow) = some true)
    (s_NotNow_NoLetter : PySem.W.subIn K (.ref e_NotNow) (.ref e_NoLetter) = some false)
    (d_NotNow_NoLetter : (Value.ref e_NotNow == Value.ref e_NoLetter) = false)
    (s_NotNow_Safe : PySem.W.subIn K (.ref e_NotNow) (.ref e_Safe) = some false)
    (d_NotNow_Safe : (Value.ref e_NotNow == Value.ref e_Safe) = false)
    (s_NotNow_NoLine : PySem.W.subIn K (.ref e_NotNow) (.ref e_NoLine) = some false)
    (d_NotNow_NoLine : (Value.ref e_NotNow == Value.ref e_NoLine) = false)
    (cn : PySem.W.specialIn K (.builtin "object.__class__") "__get__" = some (some (.builtin "getset_descriptor.__get__")))
    (ctk : PySem.W.takesIn K (.builtin "object.__class__") = some true)
    (ic_PostError : PySem.W.isClsIn K e_PostError = true)
    (t_PostError : PySem.W.typeIn K (.ref e_PostError) = some (.type "type"))
    (ic_BadBounds : PySem.W.isClsIn K e_BadBounds = true)
    (t_BadBounds : PySem.W.typeIn K (.ref e_BadBounds) = some (.type "type"))
    (ic_BadRing : PySem.W.isClsIn K e_BadRing = true)
    (t_BadRing : PySem.W.typeIn K (.ref e_BadRing) = some (.type "type"))
    (ic_BadTexts : PySem.W.isClsIn K e_BadTexts = true)
    (t_BadTexts : PySem.W.typeIn K (.ref e_BadTexts) = some (.type "type"))
    (ic_BadStep : PySem.W.isClsIn K e_BadStep = true)
    (t_BadStep : PySem.W.typeIn K (.ref e_BadStep) = some (.type "type"))
    (ic_NotNow : PySem.W.isClsIn K e_NotNow = true)
    (ic_NoLetter : PySem.W.isClsIn K e_NoLetter = true)
    (t_NoLetter : PySem.W.typeIn K (.ref e_NoLetter) = some (.type "type"))
    (ic_Safe : PySem.W.isClsIn K e_Safe = true)
    (t_Safe : PySem.W.typeIn K (.ref e_Safe) = some (.type "type"))
    (ic_NoLine : PySem.W.isClsIn K e_NoLine = true)
    (t_NoLine : PySem.W.typeIn K (.ref e_NoLine) = some (.type "type"))
    (b_PostError : PySem.W.subIn K (.ref e_PostError) (.type "BaseException") = some true)
    : ∃ fd : FuncData, (∀ (s : Shared) (v : Value), BindsTo s fd ⟨[v], []⟩ [("_law_script", v)]) ∧ ∀ base : Heap, K.In base → base.Ns mainGlobals mg → FnOk l.prog w K mg base CX0 5 fa fd ["_law_script"] (sp_law K ⟨e_PostError, e_BadBounds, e_BadRing, e_BadTexts, e_BadStep, e_NotNow, e_NoLetter, e_Safe, e_NoLine, c_Sender, f_is_whole, f_Sender_init, f_Sender_span, f_Sender_sent, f_Sender_heard, f_Sender_may_send, f_l_at, f_l_mixed, f_l_whole, f_l_word, f_l_said, f_l_span, f_law⟩) := by
  have e := hfa.symm.trans (PySem.W.mg_of X G a_law)
  cases e
  let a : Ad := ⟨e_PostError, e_BadBounds, e_BadRing, e_BadTexts, e_BadStep, e_NotNow, e_NoLetter, e_Safe, e_NoLine, c_Sender, f_is_whole, f_Sender_init, f_Sender_span, f_Sender_sent, f_Sender_heard, f_Sender_may_send, f_l_at, f_l_mixed, f_l_whole, f_l_word, f_l_said, f_l_span, fa⟩
  have T : Txt K mg a := {
    n_ValueError := PySem.W.mg_none_of X G n_ValueError
    n_bool := PySem.W.mg_none_of X G n_bool
    n_int := PySem.W.mg_none_of X G n_int
    n_isinstance := PySem.W.mg_none_of X G n_isinstance
    n_len := PySem.W.mg_none_of X G n_len
    n_max := PySem.W.mg_none_of X G n_max
    n_tuple := PySem.W.mg_none_of X G n_tuple
    n_type := PySem.W.mg_none_of X G n_type
    g_Sender := PySem.W.mg_of X G aC_Sender
    c_Sender := ⟨pg_Sender, hd_Sender, po_Sender, sa_Sender⟩
    mk_Sender := ⟨mk_Sender, a_Sender_init, i_Sender_init, kc_Sender⟩
    na_Sender_window := na_Sender_window
    na_Sender_ring := na_Sender_ring
    na_Sender_many := na_Sender_many
    na_Sender_base := na_Sender_base
    na_Sender_top := na_Sender_top
    mt_Sender_span := ⟨a_Sender_span, i_Sender_span, kp_Sender_span⟩
    mt_Sender_sent := ⟨a_Sender_sent, i_Sender_sent, kp_Sender_sent⟩
    mt_Sender_heard := ⟨a_Sender_heard, i_Sender_heard, kp_Sender_heard⟩
    mt_Sender_may_send := ⟨a_Sender_may_send, i_Sender_may_send, kp_Sender_may_send⟩
    g_PostError := PySem.W.mg_of X G aE_PostError
    g_BadBounds := PySem.W.mg_of X G aE_BadBounds
    g_BadRing := PySem.W.mg_of X G aE_BadRing
    g_BadTexts := PySem.W.mg_of X G aE_BadTexts
    g_BadStep := PySem.W.mg_of X G aE_BadStep
    g_NotNow := PySem.W.mg_of X G aE_NotNow
    g_NoLetter := PySem.W.mg_of X G aE_NoLetter
    g_Safe := PySem.W.mg_of X G aE_Safe
    g_NoLine := PySem.W.mg_of X G aE_NoLine
    x_NotNow := x_NotNow
    k_NotNow := k_NotNow
    b_NotNow := b_NotNow
    t_NotNow := t_NotNow
    ec := by intro er; cases er with | NotNow => exact ⟨hg_NotNow, hk_NotNow, b_NotNow, hdd_NotNow, ha_NotNow, cn, ctk, hm_NotNow⟩
    is_PostError := by intro er; cases er with | NotNow => exact Rp.kit_sub d_NotNow_PostError ic_PostError t_PostError s_NotNow_PostError
    is_BadBounds := by intro er; cases er with | NotNow => exact Rp.kit_sub d_NotNow_BadBounds ic_BadBounds t_BadBounds s_NotNow_BadBounds
    is_BadRing := by intro er; cases er with | NotNow => exact Rp.kit_sub d_NotNow_BadRing ic_BadRing t_BadRing s_NotNow_BadRing
    is_BadTexts := by intro er; cases er with | NotNow => exact Rp.kit_sub d_NotNow_BadTexts ic_BadTexts t_BadTexts s_NotNow_BadTexts
    is_BadStep := by intro er; cases er with | NotNow => exact Rp.kit_sub d_NotNow_BadStep ic_BadStep t_BadStep s_NotNow_BadStep
    is_NotNow := by intro er; cases er with | NotNow => exact Rp.kit_same
    is_NoLetter := by intro er; cases er with | NotNow => exact Rp.kit_sub d_NotNow_NoLetter ic_NoLetter t_NoLetter s_NotNow_NoLetter
    is_Safe := by intro er; cases er with | NotNow => exact Rp.kit_sub d_NotNow_Safe ic_Safe t_Safe s_NotNow_Safe
    is_NoLine := by intro er; cases er with | NotNow => exact Rp.kit_sub d_NotNow_NoLine ic_NoLine t_NoLine s_NotNow_NoLine
    is_ValueError := by intro er; cases er with | NotNow => exact Rp.kit_ve sv_NotNow
    ex_PostError := by intro er; cases er with | NotNow => exact Rp.exm_sub b_PostError ic_PostError t_PostError s_NotNow_PostError
    g_is_whole := PySem.W.mg_of X G a_is_whole
    k_is_whole := kp_is_whole
    g_l_at := PySem.W.mg_of X G a_l_at
    k_l_at := kp_l_at
    g_l_mixed := PySem.W.mg_of X G a_l_mixed
    k_l_mixed := kp_l_mixed
    g_l_whole := PySem.W.mg_of X G a_l_whole
    k_l_whole := kp_l_whole
    g_l_word := PySem.W.mg_of X G a_l_word
    k_l_word := kp_l_word
    g_l_said := PySem.W.mg_of X G a_l_said
    k_l_said := kp_l_said
    g_l_span := PySem.W.mg_of X G a_l_span
    k_l_span := kp_l_span
  }
  have F_is_whole := fun_mk (st := s_is_whole) l_is_whole cd1_is_whole kp_is_whole
  have B_is_whole := F_is_whole.binds (ps := ["thing"]) fun _ _ _ _ _ _ us hl => match us, hl with | [_], _ => rfl
  have F_Sender_init := fun_mk (st := s_Sender_init) l_Sender_init cd1_Sender_init kp_Sender_init
  have B_Sender_init := F_Sender_init.binds (ps := ["self", "window", "ring", "many"]) fun _ _ _ _ _ _ us hl => match us, hl with | [_, _, _, _], _ => rfl
  have F_Sender_span := fun_mk (st := s_Sender_span) l_Sender_span cd1_Sender_span kp_Sender_span
  have B_Sender_span := F_Sender_span.binds (ps := ["self"]) fun _ _ _ _ _ _ us hl => match us, hl with | [_], _ => rfl
  have F_Sender_sent := fun_mk (st := s_Sender_sent) l_Sender_sent cd1_Sender_sent kp_Sender_sent
  have B_Sender_sent := F_Sender_sent.binds (ps := ["self", "k"]) fun _ _ _ _ _ _ us hl => match us, hl with | [_, _], _ => rfl
  have F_Sender_heard := fun_mk (st := s_Sender_heard) l_Sender_heard cd1_Sender_heard kp_Sender_heard
  have B_Sender_heard := F_Sender_heard.binds (ps := ["self", "number"]) fun _ _ _ _ _ _ us hl => match us, hl with | [_, _], _ => rfl
  have F_Sender_may_send := fun_mk (st := s_Sender_may_send) l_Sender_may_send cd1_Sender_may_send kp_Sender_may_send
  have B_Sender_may_send := F_Sender_may_send.binds (ps := ["self", "k"]) fun _ _ _ _ _ _ us hl => match us, hl with | [_, _], _ => rfl
  have F_l_at := fun_mk (st := s_l_at) l_l_at cd1_l_at kp_l_at
  have B_l_at := F_l_at.binds (ps := ["_law_script", "_law_k"]) fun _ _ _ _ _ _ us hl => match us, hl with | [_, _], _ => rfl
  have F_l_mixed := fun_mk (st := s_l_mixed) l_l_mixed cd1_l_mixed kp_l_mixed
  have B_l_mixed := F_l_mixed.binds (ps := ["_law_cell", "_law_k"]) fun _ _ _ _ _ _ us hl => match us, hl with | [_, _], _ => rfl
  have F_l_whole := fun_mk (st := s_l_whole) l_l_whole cd1_l_whole kp_l_whole
  have B_l_whole := F_l_whole.binds (ps := ["_law_thing"]) fun _ _ _ _ _ _ us hl => match us, hl with | [_], _ => rfl
  have F_l_word := fun_mk (st := s_l_word) l_l_word cd1_l_word kp_l_word
  have B_l_word := F_l_word.binds (ps := ["_law_error"]) fun _ _ _ _ _ _ us hl => match us, hl with | [_], _ => rfl
  have F_l_said := fun_mk (st := s_l_said) l_l_said cd1_l_said kp_l_said
  have B_l_said := F_l_said.binds (ps := ["_law_sender", "_law_k"]) fun _ _ _ _ _ _ us hl => match us, hl with | [_, _], _ => rfl
  have F_l_span := fun_mk (st := s_l_span) l_l_span cd1_l_span kp_l_span
  have B_l_span := F_l_span.binds (ps := ["_law_sender", "_law_base", "_law_top"]) fun _ _ _ _ _ _ us hl => match us, hl with | [_, _, _], _ => rfl
  have F_law := fun_mk (st := s_law) l_law cd1_law kp_law
  have B_law := F_law.binds (ps := ["_law_script"]) fun _ _ _ _ _ _ us hl => match us, hl with | [_], _ => rfl
  refine ⟨PySem.W.fnOf "law" "law" (defArgs s_law) (defBody s_law) (defScope s_law) .none kV_law dc_law pm_law an_law cd_law ct_law, ?_, fun base _ _ => ?_⟩
  · intro s v
    exact .of_eq rfl
  have G_is_whole := ok_is_whole (P := l.prog) (w := w) (base := base) (a := a) F_is_whole T 
  have G_Sender_init := ok_Sender_init (P := l.prog) (w := w) (base := base) (a := a) F_Sender_init T 
  have G_Sender_span := ok_Sender_span (P := l.prog) (w := w) (base := base) (a := a) F_Sender_span T 
  have G_Sender_heard := ok_Sender_heard (P := l.prog) (w := w) (base := base) (a := a) F_Sender_heard T 
  have G_l_at := ok_l_at (P := l.prog) (w := w) (base := base) (a := a) F_l_at T 
  have G_l_mixed := ok_l_mixed (P := l.prog) (w := w) (base := base) (a := a) F_l_mixed T 
  have G_l_whole := ok_l_whole (P := l.prog) (w := w) (base := base) (a := a) F_l_whole T 
  have G_l_word := ok_l_word (P := l.prog) (w := w) (base := base) (a := a) F_l_word T 
  have G_Sender_may_send := ok_Sender_may_send (P := l.prog) (w := w) (base := base) (a := a) F_Sender_may_send T G_is_whole B_is_whole
  have G_l_span := ok_l_span (P := l.prog) (w := w) (base := base) (a := a) F_l_span T G_Sender_span B_Sender_span G_l_whole B_l_whole
  have G_Sender_sent := ok_Sender_sent (P := l.prog) (w := w) (base := base) (a := a) F_Sender_sent T G_Sender_may_send B_Sender_may_send
  have G_l_said := ok_l_said (P := l.prog) (w := w) (base := base) (a := a) F_l_said T G_Sender_sent B_Sender_sent G_l_word B_l_word
  exact ok_law (P := l.prog) (w := w) (base := base) (a := a) F_law T G_Sender_init B_Sender_init G_Sender_heard B_Sender_heard G_l_at B_l_at G_l_mixed B_l_mixed G_l_whole B_l_whole G_l_said B_l_said G_l_span B_l_span
theorem walk {l : PySem.W.OpenLaw} {q : Program} {loose : List Str} {XP : (Str → Option Value) → Heap → Prop} {YP : World → Heap → Prop} {d : DefRec} {K : Params → PySem.W.Frag} (hn : l.most = some 63) (hdf : d.params.defaults = [])
    (hY : ∀ (w : World) (h : Heap), YP w h → (K w.params).In h)
    (F : ∀ (w : World) (mg : Str → Option Value) (fa : Addr) (h : Heap), (K w.params).In h → h.Ns mainGlobals mg → mg d.name = some (.ref fa) →
      ∃ fd : FuncData, (∀ (s : Shared) (u : Value), BindsTo s fd ⟨[u], []⟩ [("_law_script", u)]) ∧ ∀ base : Heap, (K w.params).In base → base.Ns mainGlobals mg → FnOk l.prog w (K w.params) mg base CX0 5 fa fd ["_law_script"] (Rp.spLaw (K w.params))) :
    PySem.W.WalkO q loose XP YP l.row.toRowW d [] (fun f vs => PySem.call f vs) :=
  L2.walk_of (n := 63) (k := 5) (x := "_law_script") (CX := fun _ => CX0) (sp := fun w => Rp.spLaw (K w.params)) hn (by decide) hdf ⟨rfl, by decide, by decide⟩ hY F (fun _ _ a ns hl _ hS => ⟨_, fun _ _ z => z, a, ns, rfl, hS, hl, fun _ _ _ _ => rfl⟩) fun _ _ _ _ _ z => z
end Rq
open PySem PySem.W PyProof.Rows
set_option maxRecDepth 100000 in
set_option maxHeartbeats 0 in
theorem PySem.Challenge.cw_ringpost_k02_who_sends_holds : PySem.Challenge.rw_ringpost_k02_who_sends.Holds := by
  w_on; o_law; k_head; (case hw => w_witness2)
  k_fill
  refine Rq.walk (l := PySem.Challenge.rw_ringpost_k02_who_sends) rfl rfl (fun w h Y => PySem.W.kIn_of Y) ?F
  case F =>
    intro w mg fa h KX G hmg
    refine' Rq.all_mk KX G hmg ?aC_Sender ?aE_PostError ?aE_BadBounds ?aE_BadRing ?aE_BadTexts ?aE_BadStep ?aE_NotNow ?aE_NoLetter ?aE_Safe ?aE_NoLine ?a_is_whole ?l_is_whole ?cd1_is_whole ?kp_is_whole ?a_Sender_init ?i_Sender_init ?l_Sender_init ?cd1_Sender_init ?kp_Sender_init ?a_Sender_span ?i_Sender_span ?l_Sender_span ?cd1_Sender_span ?kp_Sender_span ?a_Sender_sent ?i_Sender_sent ?l_Sender_sent ?cd1_Sender_sent ?kp_Sender_sent ?a_Sender_heard ?i_Sender_heard ?l_Sender_heard ?cd1_Sender_heard ?kp_Sender_heard ?a_Sender_may_send ?i_Sender_may_send ?l_Sender_may_send ?cd1_Sender_may_send ?kp_Sender_may_send ?a_l_at ?l_l_at ?cd1_l_at ?kp_l_at ?a_l_mixed ?l_l_mixed ?cd1_l_mixed ?kp_l_mixed ?a_l_whole ?l_l_whole ?cd1_l_whole ?kp_l_whole ?a_l_word ?l_l_word ?cd1_l_word ?kp_l_word ?a_l_said ?l_l_said ?cd1_l_said ?kp_l_said ?a_l_span ?l_l_span ?cd1_l_span ?kp_l_span ?a_law ?l_law ?cd1_law ?kp_law ?pg_Sender ?hd_Sender ?po_Sender ?sa_Sender ?mk_Sender ?kc_Sender ?na_Sender_window ?na_Sender_ring ?na_Sender_many ?na_Sender_base ?na_Sender_top ?n_ValueError ?n_bool ?n_int ?n_isinstance ?n_len ?n_max ?n_tuple ?n_type ?x_NotNow ?k_NotNow ?b_NotNow ?t_NotNow ?hg_NotNow ?hk_NotNow ?hdd_NotNow ?ha_NotNow ?hm_NotNow ?sv_NotNow ?s_NotNow_PostError ?d_NotNow_PostError ?s_NotNow_BadBounds ?d_NotNow_BadBounds ?s_NotNow_BadRing ?d_NotNow_BadRing ?s_NotNow_BadTexts ?d_NotNow_BadTexts ?s_NotNow_BadStep ?d_NotNow_BadStep ?s_NotNow_NotNow ?s_NotNow_NoLetter ?d_NotNow_NoLetter ?s_NotNow_Safe ?d_NotNow_Safe ?s_NotNow_NoLine ?d_NotNow_NoLine ?cn ?ctk ?ic_PostError ?t_PostError ?ic_BadBounds ?t_BadBounds ?ic_BadRing ?t_BadRing ?ic_BadTexts ?t_BadTexts ?ic_BadStep ?t_BadStep ?ic_NotNow ?ic_NoLetter ?t_NoLetter ?ic_Safe ?t_Safe ?ic_NoLine ?t_NoLine ?b_PostError
    case aC_Sender => k_is
    case aE_PostError => k_is
    case aE_BadBounds => k_is
    case aE_BadRing => k_is
    case aE_BadTexts => k_is
    case aE_BadStep => k_is
    case aE_NotNow => k_is
    case aE_NoLetter => k_is
    case aE_Safe => k_is
    case aE_NoLine => k_is
    case a_is_whole => k_is
    case l_is_whole => k_is
    case cd1_is_whole => k_is
    case kp_is_whole => k_is
    case a_Sender_init => k_is
    case i_Sender_init => k_is
    case l_Sender_init => k_is
    case cd1_Sender_init => k_is
    case kp_Sender_init => k_is
    case a_Sender_span => k_is
    case i_Sender_span => k_is
    case l_Sender_span => k_is
    case cd1_Sender_span => k_is
    case kp_Sender_span => k_is
    case a_Sender_sent => k_is
    case i_Sender_sent => k_is
    case l_Sender_sent => k_is
    case cd1_Sender_sent => k_is
    case kp_Sender_sent => k_is
    case a_Sender_heard => k_is
    case i_Sender_heard => k_is
    case l_Sender_heard => k_is
    case cd1_Sender_heard => k_is
    case kp_Sender_heard => k_is
    case a_Sender_may_send => k_is
    case i_Sender_may_send => k_is
    case l_Sender_may_send => k_is
    case cd1_Sender_may_send => k_is
    case kp_Sender_may_send => k_is
    case a_l_at => k_is
    case l_l_at => k_is
    case cd1_l_at => k_is
    case kp_l_at => k_is
    case a_l_mixed => k_is
    case l_l_mixed => k_is
    case cd1_l_mixed => k_is
    case kp_l_mixed => k_is
    case a_l_whole => k_is
    case l_l_whole => k_is
    case cd1_l_whole => k_is
    case kp_l_whole => k_is
    case a_l_word => k_is
    case l_l_word => k_is
    case cd1_l_word => k_is
    case kp_l_word => k_is
    case a_l_said => k_is
    case l_l_said => k_is
    case cd1_l_said => k_is
    case kp_l_said => k_is
    case a_l_span => k_is
    case l_l_span => k_is
    case cd1_l_span => k_is
    case kp_l_span => k_is
    case a_law => k_is
    case l_law => k_is
    case cd1_law => k_is
    case kp_law => k_is
    case pg_Sender => k_is
    case hd_Sender => k_is
    case po_Sender => k_is
    case sa_Sender => k_is
    case mk_Sender => k_is
    case kc_Sender => k_is
    case na_Sender_window => k_is
    case na_Sender_ring => k_is
    case na_Sender_many => k_is
    case na_Sender_base => k_is
    case na_Sender_top => k_is
    case n_ValueError => k_is
    case n_bool => k_is
    case n_int => k_is
    case n_isinstance => k_is
    case n_len => k_is
    case n_max => k_is
    case n_tuple => k_is
    case n_type => k_is
    case x_NotNow => k_exc
    case k_NotNow => k_is
    case b_NotNow => k_is
    case t_NotNow => k_is
    case hg_NotNow => k_is
    case hk_NotNow => k_is
    case hdd_NotNow => k_is
    case ha_NotNow => k_is
    case hm_NotNow => k_is
    case sv_NotNow => k_is
    case s_NotNow_PostError => first | k_is | rfl
    case d_NotNow_PostError => decide
    case s_NotNow_BadBounds => first | k_is | rfl
    case d_NotNow_BadBounds => decide
    case s_NotNow_BadRing => first | k_is | rfl
    case d_NotNow_BadRing => decide
    case s_NotNow_BadTexts => first | k_is | rfl
    case d_NotNow_BadTexts => decide
    case s_NotNow_BadStep => first | k_is | rfl
    case d_NotNow_BadStep => decide
    case s_NotNow_NotNow => first | k_is | rfl
    case s_NotNow_NoLetter => first | k_is | rfl
    case d_NotNow_NoLetter => decide
    case s_NotNow_Safe => first | k_is | rfl
    case d_NotNow_Safe => decide
    case s_NotNow_NoLine => first | k_is | rfl
    case d_NotNow_NoLine => decide
    case cn => k_is
    case ctk => k_is
    case ic_PostError => k_is
    case t_PostError => k_is
    case ic_BadBounds => k_is
    case t_BadBounds => k_is
    case ic_BadRing => k_is
    case t_BadRing => k_is
    case ic_BadTexts => k_is
    case t_BadTexts => k_is
    case ic_BadStep => k_is
    case t_BadStep => k_is
    case ic_NotNow => k_is
    case ic_NoLetter => k_is
    case t_NoLetter => k_is
    case ic_Safe => k_is
    case t_Safe => k_is
    case ic_NoLine => k_is
    case t_NoLine => k_is
    case b_PostError => k_is

