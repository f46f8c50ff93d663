import PyProof.Rows.All
import Wide.All
import OpenK.AllK
import Wide.FinOn
import PyProof.StrOps2
import HandS.ForMost
import HandS.ForExc
import HandS.IsInst
import HandS.HotCalls
import HandS.ExcIs
import HandS.ExcCtx
import HandS.More
import HandS.Style
import HandS.Flow
import HandS.TupAny
import HandS.Text
import HandS.Steps
import KE.KSortedM
import PyProof.P3Eq
import PySem.Challenge.RW_ringpost_k04_what_is_there
set_option Elab.async false
set_option linter.all false
set_option maxRecDepth 100000
set_option maxHeartbeats 4000000
namespace Rp
open PySem PySem.Spec PyProof.Rows L2 HotX

/-! a list walked while an exception is handled -/
section
variable {prog : Program} {w : World} {A : Around} {E : Value → Shared → Prop} {s : Shared}
theorem lst_over_hot {it l x1 : Addr} {i : Nat} {xs : Array Value} {Q : Option Value → Shared → Prop} (hot : HotAt A x1 s.heap) (hi : s.heap.IsListIter it l i) (hl : s.heap.IsList l xs) (hx : xs[i]? = none) (nx : x1 ≠ it)
    (hQ : ∀ h', Heap.ExtBut it s.heap h' → Q none { s with heap := h' }) : wpAny (model prog w) A (pyNext (.ref it)) Q E s := by
  obtain ⟨oi, gi, ci, di⟩ := id hi
  obtain ⟨ol, gl, cl, nl, dl⟩ := hl
  obtain ⟨hh, o1, vs1, g1, d1, c1⟩ := hot
  unfold pyNext
  refine wpAny_bind (wpAny_attempt (wpAny_callSpecial?_slot (name := Str.ofString "__next__") hi.typeIs slot_listiter_next (wpAny_call_entry slot_listiter_next hi.typeIs entry_listiter_next ?g0 (args_listiter_next _))))
  case g0 =>
    refine wpAny_bind (m := field (.ref it) 0) (wpAny_field gi di (x := .ref l) rfl ?_)
    show wpAny _ _ (if (Value.ref l == Value.none) = true then _ else _) _ _ s
    rw [if_neg (by exact Bool.false_ne_true : ¬ ((Value.ref l == Value.none) = true))]
    refine wpAny_bind (m := field (.ref it) 1) (wpAny_field gi di (x := .int i 0) rfl ?_)
    refine wpAny_bind (m := seqItems? (.ref l)) (wpAny_seqItems gl dl ?_)
    simp only [Int.toNat_natCast, hx]
    refine wpAny_bind (wpAny_rule (wpAny_bind (wpAny_setField gi di (by simp) ?_)))
    refine wpAny_bind (m := newExc (.type "StopIteration") []) ?_
    simp only [newExc, newTuple]
    refine wpAny_bind (wpAny_newObj_type ?_ (by size_fits))
    refine wpAny_bind (m := firstArgMember _ _) (wpAny_of_eq (a := Value.none) (by first | rfl | (simp only [firstArgMember]; rfl)) ?_)
    refine wpAny_newObj_type ?_ (by size_fits)
    have k1 : ((((s.heap.update it (Obj.mapFields (·.setIfInBounds 0 Value.none)))).push { cls := .type "tuple", data := .seq ([] : List Value).toArray })).get? x1 = some o1 := by
      refine Heap.get?_push_of_some _ ?_
      rw [Heap.get?_update_other _ _ (Ne.symm nx)]
      exact g1
    refine raiseNew_hot ⟨hh, o1, vs1, Heap.get?_push_of_some _ k1, d1, c1⟩ (Nat.ne_of_lt (Heap.lt_size k1)) (Heap.get?_push_size _ rfl) rfl (by first | (simp; done) | (simp; omega) | (simp only [Array.size_append]; simp; omega)) ?_
    refine wpAny_bind (wpAny_isInstance (T := "StopIteration") (b := true) ⟨_, Heap.get?_update_self _ (Heap.get?_push_size _ rfl) rfl, rfl⟩ isSubtype_stop ?_)
    refine wpAny_pure (hQ _ ?_)
    intro b o hb e
    have k2 : ((((s.heap.update it (Obj.mapFields (·.setIfInBounds 0 Value.none)))).push { cls := .type "tuple", data := .seq ([] : List Value).toArray })).get? b = some o := by
      refine Heap.get?_push_of_some _ ?_
      rw [Heap.get?_update_other _ _ (Ne.symm hb)]
      exact e
    rw [Heap.get?_update_other _ _ (Nat.ne_of_gt (Heap.lt_size k2))]
    exact Heap.get?_push_of_some _ k2
theorem turn_lstH {P : Program} {w : World} {K : PySem.W.Frag} {tg : Expr} (a it : Addr) : L2H.TurnH P w K tg (Itl K a) [it] it (fun i h => h.IsListIter it a i) where
  mem := by simp
  obj := by
    intro i h st b hb
    obtain rfl : b = it := by simpa using hb
    obtain ⟨o, e, c, d⟩ := st
    refine ⟨o, e, fun v z => ?_⟩
    rw [d] at z
    cases z
  keep := fun i h h' st k => st.at fun o e => k it (by simp) o e
  item := by
    rintro X rfl rfl rfl hc i pins s σ H E I hf st ⟨xs, x, hq, hx⟩
    obtain ⟨its, rv, p, hz⟩ := I.list hq
    obtain ⟨u, hu, ru⟩ := rv.get hx
    obtain ⟨f0, f1, f2, f3, f4, f5⟩ := hf it (by simp)
    refine wpAny_pyNext_list_item st p.isList (x := u) (by simpa using hu) fun h' t' sb => ?_
    have I1 : Inv X pins σ H { s with heap := h' } := I.turned (t' := s.toks) (fun b o hb e => (sb.2 b hb).trans e) f0 f1 f3 f4 f5
    obtain ⟨o, e, c, d⟩ := id t'
    refine ⟨u, rfl, go_of (s := { s with heap := h' }) e c d (by decide) ⟨x, H, I1, ru, ⟨rfl, fun ys hy => ?_⟩, t', fun b hb => (hf b hb).1⟩⟩
    rw [I.list_inj hy hq]
    exact hx
  done := by
    rintro X rfl rfl rfl hc i pins s σ H E I hf st ⟨xs, hq, hx⟩
    obtain ⟨its, rv, p, hz⟩ := I.list hq
    obtain ⟨f0, f1, f2, f3, f4, f5⟩ := hf it (by simp)
    have hl := rv.length
    obtain ⟨q, ⟨hh, v1, e1, c1⟩, hq1⟩ := hc
    have g1 := I.pin q (List.mem_append_left _ hq1)
    refine lst_over_hot (x1 := q.1) ⟨hh, q.2, v1, g1.1, e1, c1⟩ st p.isList (by simp; omega) (f5 q (List.mem_append_left _ hq1)) fun h' eb => ⟨rfl, ?_⟩
    exact I.turned (t' := s.toks) (fun b o hb e => eb b o hb e) f0 f1 f3 f4 f5
  self := fun _ _ _ _ _ st h => wpAny_pyIter_listiter st h
end
theorem pi_lstH {X : Cx} {tg l : Expr} {tl : TE} (hl : PE X l tl) : L2H.PIH X tg l (iList X.K tl) := by
  refine ⟨fun pins s σ H R I h => thn (hl.run pins s σ H _ I h) fun v s1 ⟨x, H1, I1, r1, q1⟩ => ?_⟩
  obtain ⟨a, rfl, ⟨xs, hq⟩, q⟩ := q1
  cases r1
  obtain ⟨its, rv, p, hz⟩ := I1.list hq
  refine wpAny_pyIter_list p.isList ⟨s1.heap.objs.size, [s1.heap.objs.size], _, _, H1, rfl, I1.kept (t' := s1.toks) fun b o e => Heap.get?_push_of_some _ e, turn_lstH a _, ?_, fun b hb => ?_, q⟩
  · exact ⟨_, Heap.get?_push_size _ rfl, rfl, rfl⟩
  · obtain rfl : b = s1.heap.objs.size := by simpa using hb
    exact I1.fpOk (Nat.le_refl _) (I1.hok.fresh (Nat.le_refl _))

/-! a def of the text, called while the exception p is handled -/
structure FnAt (p : Addr × Obj) (P : Program) (w : World) (K : PySem.W.Frag) (mg : Str → Option Value) (base : Heap) (k : Nat) (f : Addr) (fd : FuncData) (ps : List Str) (sp : Sp) : Prop where
  len : ∀ vs H Q E, sp vs H Q E → vs.length = ps.length
  run : ∀ (A : Around) (outer : List Env) (s : Shared) (H : Hp) (args : Args) (us : List Value) (vs : List V) (Q : VK) (E : XK), L2H.RoomH k A → L2H.Hot1 A p → L2H.PinOk outer H s p → Env0 P w K mg base A outer s H →
    BindsTo s fd args (ps.zip us) → Vals vs us → sp vs H Q E → codeAny (model P w) A (.call (.ref f) args) (CR CX0 outer P w H s Q E) s
theorem fn_at {p : Addr × Obj} {P : Program} {w : World} {K : PySem.W.Frag} {mg : Str → Option Value} {base : Heap} {k : Nat} {f : Addr} {nm qual : Str} {pa : Arguments} {bd : List Stmt} {sc : Scope} {dV kV doc pm cdv ct oc : Value} {an od : Option Addr}
    {osl : Array (Option Value)} {N ps : List Str} {sp : Sp} (lk : K.lookup f = some ⟨oc, od, .func (PySem.W.fnOf nm qual pa bd sc dV kV doc pm an cdv ct), osl⟩) (hcd : PySem.W.codeIn K cdv qual = true) (S : FnScope N ps sc)
    (len : ∀ vs H Q E, sp vs H Q E → vs.length = ps.length)
    (hb : ∀ (A : Around) (outer : List Env) (s : Shared) (H : Hp) (vs : List V) (Q : VK) (E : XK), L2H.Hot1 A p → L2H.RoomH k (A.deeper (envOfC qual sc s.heap.objs.size f cdv)) → sp vs H Q E →
      ∃ t, PSs (L2H.cxH CX0 P w K mg base N qual sc f cdv A outer s H E p).nox bd t ∧ t { nx := fun _ H' => Q .non H', rt := Q } (L2.start N vs) H) :
    FnAt p P w K mg base (k + 1) f (PySem.W.fnOf nm qual pa bd sc dV kV doc pm an cdv ct) ps sp := by
  refine ⟨len, fun A outer s H args us vs Q E hr hot hpin e0 hbd r hsp => ?_⟩
  have hl := len _ _ _ _ hsp
  have kp : ∀ b o, base.get? b = some o → s.heap.get? b = some o := fun b o e => (e0.bs b o e).1
  have KX : K.In s.heap := e0.mod.kin.keeps kp
  have lim : s.heap.NoLimit := e0.mod.nolimit.keeps kp
  have hkind : ∀ y ∈ ps.zip us, sc.names.lookup y.1 = some .local ∨ (sc.names.lookup y.1 = some .cell ∧ ((cellsFrom (s.heap.objs.size + 1) sc.names []).lookup y.1).isSome = true) := by
    rintro ⟨n, v⟩ hy
    rcases S.par n (List.of_mem_zip hy).1 with q | q
    · exact Or.inl q
    · exact Or.inr ⟨q, PySem.W.cellsFrom_some _ _ _ (Or.inl q)⟩
  refine codeAny_call_function hr.depth (KX _ _ lk) rfl S.co S.gen rfl (PySem.W.codeRec_of KX hcd) (hbd _ _ _ _ (wpAny_newFunctionEnv_cells S.kind hkind ?_))
  rintro env rfl s1 x
  refine ⟨lim.keeps x.toInCall.keep, codeAny_func ?_⟩
  obtain ⟨t, ht, hq⟩ := hb A outer s H vs Q E hot (hr.deeper _) hsp
  have I : Inv (L2H.cxH CX0 P w K mg base N qual sc f cdv A outer s H E p) [] (L2.start N vs) H s1 := L2H.inv_startH S hpin e0 hl r x
  have fin : ∀ {σ' : L2.St} {H' : Hp} {s' : Shared} {v : V} {u : Value}, Inv (L2H.cxH CX0 P w K mg base N qual sc f cdv A outer s H E p) [] σ' H' s' → RelV v u → Q v H' → CE outer P w H s Q u s' :=
    fun {σ' H' s' v u} J rv q => ⟨v, H', J.os, J.bare, J.base, J.hok, rv, q⟩
  refine wpAny_mono (ht.nox.run [] s1 (L2.start N vs) H _ I hq) (fun fl s' hs => ?_) fun e s' hs => hs
  cases fl with
  | ret u =>
    obtain ⟨v, σ', H', J, rv, q⟩ := hs
    exact fin J rv q
  | next =>
    obtain ⟨σ', H', J, q⟩ := hs
    exact fin (v := V.non) (u := Value.none) J rfl q
  | brk => exact hs.elim fun _ ⟨_, _, q⟩ => q.elim
  | cont => exact hs.elim fun _ ⟨_, _, q⟩ => q.elim
section
variable {X : Cx} {p : Addr × Obj} {k : Nat} {f : Addr} {fd : FuncData} {ps : List Str} {sp : Sp} {x : Str} {q pos : Pos} {e : Expr} {es : List Expr} {t : TA}
theorem pe_callAt (F : FnAt p X.prog X.w X.K X.mg X.base k f fd ps sp) (hr : L2H.RoomH k X.A) (hp : p ∈ X.pn) (hot : L2H.Hot1 X.A p) (hg : Gl X x) (hm : X.mg x = some (.ref f)) (hk : PySem.W.keepIn X.K (.ref f) = true) (hb : Binds X.K fd ps [])
    (ha : PA X (e :: es) t) (hdb : (x == ("__debug__" : Str)) = false := by decide) (he : starEach (e :: es) X.env = (false, eval e X.env) :: starEach es X.env := by rfl) (hpl : (backTo pos (starEach es X.env)).any (·.1) = false := by rfl) :
    PE X (.Call (.Name x q) (e :: es) [] pos) (tCall sp [] E0 t) := by
  refine ⟨fun pins s σ H Q I h => wpAny_Call_Name_kw (ld_glob I hg hm ?_ hdb)⟩
  refine PySem.W.callWith_K (h₀ := X.base) I.ok.mod.kin hk (thn (ha.run pos pins s σ H _ I h) fun us s1 ⟨vs, H1, I1, r, hsp⟩ => ⟨I1.kIn, ?_⟩) he hpl
  have hsp : sp vs H1 Q E0 := by
    have z : sp (vs ++ []) H1 Q E0 := hsp
    rw [List.append_nil] at z
    exact z
  have hl : us.length = ps.length := r.length ▸ F.len _ _ _ _ hsp
  have b := hb s1 us I1.kIn (by rw [List.append_nil]; exact hl)
  rw [List.append_nil] at b
  have g := I1.pin p (List.mem_append_left _ hp)
  have hpin : L2H.PinOk X.stack H1 s1 p := ⟨g.1, g.2.1, fun hm => (List.mem_cons.mp (I1.stkSub p.1 hm)).elim g.2.2.1 g.2.2.2.1, g.2.2.2.2⟩
  refine wpAny_call (codeAny_mono (F.run X.A X.stack s1 H1 ⟨us, []⟩ us vs Q E0 hr hot hpin I1.env0 b r hsp) fun r s' hq => ?_)
  cases r with
  | error e => exact hq.elim
  | ok fl =>
    cases fl with
    | ret u => exact I1.after hq
    | next => exact hq.elim
    | brk => exact hq.elim
    | cont => exact hq.elim
end
/-- isinstance of the exception that is pinned -/
theorem call_isP {X : Cx} {a D : Addr} {oe : Obj} (C : ExcC X.K D) (hz : Zc (.ref D) none oe) (hf : ∃ vs, oe.data = .fields vs) (hp : (a, oe) ∈ X.pn) : CallR X (.builtin "isinstance") (rIsE X.K D a) := by
  rintro pins s σ H xs us Q I r ⟨c, cv, b, rfl, hcv, e, q⟩
  obtain ⟨u1, u2, rfl, rx, rt⟩ := vals2 r
  cases rx
  have ec := hcv _ rt
  subst ec
  have hget := (I.pin (a, oe) (List.mem_append_left _ hp)).1
  obtain ⟨vs, hv⟩ := hf
  have J : PySem.W.InstAt s.heap a oe D none := by
    obtain ⟨oc, od, oda, osl⟩ := oe
    obtain ⟨h1, h2⟩ := hz
    dsimp only at h1 h2 hv
    subst h1 h2 hv
    exact ⟨hget, rfl, rfl, trivial⟩
  refine PySem.W.kia_one (PySem.W.handS_kitx_exc C.hg C.hk C.hs C.hd C.ha C.hn C.ht C.hm) I.kIn J e (by intro z; cases z) fun tk => ?_
  exact ⟨.bl b, H, I.kept (t' := tk) fun _ _ z => z, rfl, q⟩
end Rp

namespace Rp
open PySem PySem.Spec PyProof.Rows L2

/-! attributes by name -/
theorem lk_hit {k : Str} {v : V} {r : List (Str × V)} : List.lookup k ((k, v) :: r) = some v := by
  rw [List.lookup_cons]
  simp
theorem lk_miss {k k' : Str} {v : V} {r : List (Str × V)} (h : (k == k') = false) : List.lookup k ((k', v) :: r) = List.lookup k r := by
  rw [List.lookup_cons, h]
theorem pt_nil {k : Str} {y : V} : putF k y [] = [(k, y)] := rfl
theorem pt_hit {k : Str} {v y : V} {r : List (Str × V)} : putF k y ((k, v) :: r) = (k, y) :: r := by
  show (if k = k then _ else _) = _
  rw [if_pos rfl]
theorem pt_miss {k k' : Str} {v y : V} {r : List (Str × V)} (h : (k' == k) = false) : putF k y ((k', v) :: r) = (k', v) :: putF k y r := by
  show (if k' = k then _ else _) = _
  rw [if_neg (by simpa using h)]

/-! readings by name -/
def rCatS : R2 := fun x y H Q => ∃ i j, x = .str i ∧ y = .str j ∧ i.length + j.length ≤ sizeLine ∧ Q (.str (i ++ j)) H
def rIT : R2 := fun x y H Q => ∃ a b, x = .ty a ∧ y = .ty b ∧ Q (.bl (decide (a = b))) H
def rLen (K : PySem.W.Frag) : List V → Hp → VK → Prop := fun xs H Q => ∃ x n, xs = [x] ∧ LenV K x H n ∧ Q (.int n) H
def rInt1 : List V → Hp → VK → Prop := fun xs H Q => (∃ i, xs = [.int i] ∧ Q (.int i) H) ∨ ∃ k, xs = [.bl k] ∧ Q (.int (if k then 1 else 0)) H
def rStrI : List V → Hp → VK → Prop := fun xs H Q => ∃ i, xs = [.int i] ∧ i.natAbs.log2 < 1920 ∧ Q (.str (toString i)) H
def rMax2 : List V → Hp → VK → Prop := fun xs H Q => ∃ i j, xs = [.int i, .int j] ∧ Q (.int (if j > i then j else i)) H
def rMin2 : List V → Hp → VK → Prop := fun xs H Q => ∃ i j, xs = [.int i, .int j] ∧ Q (.int (if j < i then j else i)) H
def rListOf (K : PySem.W.Frag) : List V → Hp → VK → Prop := fun xs H Q => ∃ p ys, xs = [.ref p] ∧ (SqL K H p ys ∨ SqT K H p ys) ∧ ∀ l, H l = none → Q (.ref l) (upd H l (.lst ys))
def rTupOf (K : PySem.W.Frag) : List V → Hp → VK → Prop := fun xs H Q => ∃ p ys, xs = [.ref p] ∧ ((SqL K H p ys ∧ ∀ l, H l = none → Q (.ref l) (upd H l (.tup ys))) ∨ (SqT K H p ys ∧ Q (.ref p) H))
def tRaiseC (C : Addr) (E : XK) : TS := fun _ _ H => E (.ref C) none H
theorem call_lenA {X : Cx} : CallR X (.builtin "len") (rLen X.K) := call_len

/-! a text, so many times -/
def strRep (z : Str) (n : Int) : Str := if n < 1 then Str.empty else if (n == 1 || z.length == 0) = true then z else ⟨(List.replicate n.toNat z.cps).foldl (· ++ ·) #[]⟩
theorem strRep_zero {z : Str} : strRep z 0 = Str.empty := rfl
theorem strRep_one {z : Str} : strRep z 1 = z := rfl
def rStrRep : R2 := fun x y H Q => ∃ z n, x = .str z ∧ y = .int n ∧ 0 ≤ n ∧ n ≤ 4096 ∧ z.length ≤ 1024 ∧ Q (.str (strRep z n)) H
theorem fold_size (n : Nat) (c : Array Nat) : ∀ b : Array Nat, ((List.replicate n c).foldl (· ++ ·) b).size = b.size + n * c.size := by
  induction n with
  | zero => intro b; simp
  | succ n ih =>
    intro b
    rw [List.replicate_succ, List.foldl_cons, ih, Array.size_append, Nat.succ_mul]
    omega
theorem op_strRep {X : Cx} : OpR X (binaryOp .Mult) rStrRep := by
  rintro pins s σ H x y v u Q I rx ry ⟨z, n, rfl, rfl, h0, h1, hz, q⟩
  obtain ⟨t, rfl⟩ := rx
  obtain ⟨t', rfl⟩ := ry
  have hs : sizeLine = 16777216 := sizeLine_eq
  have hm : z.length * n.toNat ≤ 1024 * 4096 := Nat.mul_le_mul hz (by omega)
  refine PySem.P.mul_str (by simp; omega) (fun h2 h3 h4 => ?_) (fun h2 h3 => ?_) ?_
  · have h5 : (2 ^ 63 - 1) / n ≥ 1024 := by
      refine (Int.le_ediv_iff_mul_le (by omega)).mpr ?_
      omega
    omega
  · unfold Builtin.Str.tooLong
    simp
    omega
  · unfold strRep at q
    by_cases a : n < 1
    · rw [if_pos a] at q ⊢
      exact ⟨by decide, .str _, H, I.tok _, ⟨_, rfl⟩, q⟩
    · rw [if_neg a] at q ⊢
      by_cases b : (n == 1 || z.length == 0) = true
      · rw [if_pos b] at q ⊢
        exact ⟨.str _, H, I, ⟨_, rfl⟩, q⟩
      · rw [if_neg b] at q ⊢
        refine ⟨?_, .str _, H, I.tok _, ⟨_, rfl⟩, q⟩
        show ((List.replicate n.toNat z.cps).foldl (· ++ ·) #[]).size ≤ sizeLine
        rw [fold_size]
        have e : z.cps.size = z.length := rfl
        have f : n.toNat * z.cps.size = z.length * n.toNat := by rw [e, Nat.mul_comm]
        simp only [Array.size_empty]
        omega

/-! comparisons in a chain -/
structure PCh (X : Cx) (ops : List CmpOp) (rs : List Expr) (t : V → TE) : Prop where
  val : ∀ (pos : Pos) (pins : List (Addr × Obj)) (s : Shared) (σ : L2.St) (H : Hp) (x : V) (v : Value) (Q : VK), Inv X pins σ H s → RelV x v → t x σ H Q → wpAny (model X.prog X.w) X.A (compareChain pos v ops (evalEach rs X.env)) (EP X pins σ Q) X.xe s
  tst : ∀ (pos : Pos) (pins : List (Addr × Obj)) (s : Shared) (σ : L2.St) (H : Hp) (x : V) (v : Value) (Q : Bool → Hp → Prop), Inv X pins σ H s → RelV x v → t x σ H (fun z H' => ∃ k, z = .bl k ∧ Q k H') → wpAny (model X.prog X.w) X.A (testChain pos v ops (evalEach rs X.env)) (TP X pins σ Q) X.xe s
def cLast (r : R2) (tb : TE) : V → TE := fun x σ H Q => tb σ H fun y H1 => r x y H1 Q
def cCons (r : R2) (tb : TE) (u : V → TE) : V → TE := fun x σ H Q => tb σ H fun y H1 => r x y H1 fun z H2 => ∃ k, z = .bl k ∧ if k = true then u y σ H2 Q else Q (.bl false) H2
section
variable {X : Cx} {op op' : CmpOp} {ops : List CmpOp} {a b b' : Expr} {rs : List Expr} {r : R2} {ta tb : TE} {u : V → TE} {pos : Pos}
theorem pch_last (ho : OpR X (compareOp op) r) (hb : PE X b tb) : PCh X [op] [b] (cLast r tb) where
  val := fun pos pins s σ H x v Q I rx h => chain_last (thn (hb.run pins s σ H _ I h) fun w s1 ⟨y, H1, I1, ry, q⟩ => ho pins s1 σ H1 x y v w Q I1 rx ry q)
  tst := fun pos pins s σ H x v Q I rx h => test_last (thn (hb.run pins s σ H _ I h) fun w s1 ⟨y, H1, I1, ry, q⟩ => thn (ho pins s1 σ H1 x y v w _ I1 rx ry q) fun d s2 ⟨z, H2, I2, rz, k, ez, q2⟩ => by
    subst ez
    cases rz
    exact wpAny_truthy_bool ⟨H2, I2, q2⟩)
theorem pch_cons (ho : OpR X (compareOp op) r) (hb : PE X b tb) (hr : PCh X (op' :: ops) (b' :: rs) u) : PCh X (op :: op' :: ops) (b :: b' :: rs) (cCons r tb u) where
  val := fun pos pins s σ H x v Q I rx h => chain_link (thn (hb.run pins s σ H _ I h) fun w s1 ⟨y, H1, I1, ry, q⟩ => thn (ho pins s1 σ H1 x y v w _ I1 rx ry q) fun d s2 ⟨z, H2, I2, rz, k, ez, q2⟩ => by
    subst ez
    cases rz
    refine wpAny_truthy_bool ?_
    cases k with
    | false => exact ite_ff ⟨.bl false, H2, I2, rfl, q2⟩
    | true => exact ite_tt (hr.val pos pins s2 σ H2 y w Q I2 ry q2))
  tst := fun pos pins s σ H x v Q I rx h => test_link (thn (hb.run pins s σ H _ I h) fun w s1 ⟨y, H1, I1, ry, q⟩ => thn (ho pins s1 σ H1 x y v w _ I1 rx ry q) fun d s2 ⟨z, H2, I2, rz, k, ez, q2⟩ => by
    subst ez
    cases rz
    refine wpAny_truthy_bool ?_
    cases k with
    | false =>
      obtain ⟨k', e', q'⟩ := q2
      cases e'
      exact ite_ff ⟨H2, I2, q'⟩
    | true => exact ite_tt (hr.tst pos pins s2 σ H2 y w Q I2 ry q2))
def tChn (ta : TE) (u : V → TE) : TE := fun σ H Q => ta σ H fun x H1 => u x σ H1 Q
theorem pe_chn (ha : PE X a ta) (hr : PCh X (op :: op' :: ops) (b :: b' :: rs) u) (hm : lastMarks (op :: op' :: ops) (b :: b' :: rs) = false := by with_unfolding_all rfl) : PE X (.Compare a (op :: op' :: ops) (b :: b' :: rs) pos) (tChn ta u) :=
  ⟨fun pins s σ H Q I h => Compare_chain (thn (ha.run pins s σ H _ I h) fun v s1 ⟨x, H1, I1, rx, q⟩ => hr.val pos pins s1 σ H1 x v Q I1 rx q) hm⟩
theorem pt_chn (ha : PE X a ta) (hr : PCh X (op :: op' :: ops) (b :: b' :: rs) u) (hm : lastMarks (op :: op' :: ops) (b :: b' :: rs) = false := by with_unfolding_all rfl) : PT X (.Compare a (op :: op' :: ops) (b :: b' :: rs) pos) (tTest (tChn ta u)) :=
  ⟨fun pins s σ H Q I h => isTrue_chain (thn (ha.run pins s σ H _ I h) fun v s1 ⟨x, H1, I1, rx, q⟩ => hr.tst pos pins s1 σ H1 x v Q I1 rx q) hm⟩
end

/-! o.m(e, ..) of a def that may raise; the wish of what is raised by the caller's slots -/
def tMethS (C : Addr) (m : Str) (sp : Sp) (E : L2.St → XK) (ta : TE) (t : TA) : TE := fun σ H Q => ta σ H fun x H1 => ∃ a dx fs, x = .ref a ∧ H1 a = some (.ins C dx fs) ∧ fs.lookup m = none ∧ t σ H1 fun vs H2 => sp (x :: vs) H2 Q (E σ)
section
variable {X : Cx} {CX : CXT} {k : Nat} {C f : Addr} {fd : FuncData} {ps : List Str} {m : Str} {sp : Sp} {E : L2.St → XK} {o e : Expr} {es : List Expr} {ta : TE} {t : TA} {apos pos : Pos} {pl : Sem Bool}
theorem pe_methS (he : PE X o ta) (c : Cls X.K C) (hm : Meth X.K C m f) (F : FnOk X.prog X.w X.K X.mg X.base CX k f fd ps sp) (hr : Room k X.A) (hb : Binds X.K fd ps []) (hx : ∀ σ, PassesAt CX X σ (E σ)) (ha : PA X (e :: es) t)
    (hst : starEach (e :: es) X.env = (false, eval e X.env) :: starEach es X.env := by rfl) (hpl : (backTo pos (starEach es X.env)).any (·.1) = false := by rfl)
    (ht : eval (.Call (.Attribute o m apos) (e :: es) [] pos) X.env = (do let ov ← eval o X.env; standAt apos.atName; let (f, first) ← holding [ov] (getMethod ov m pl); callWith pos f first (backTo pos (starEach (e :: es) X.env)) (backToKw pos (keywordEach [] X.env))) := by rfl) :
    PE X (.Call (.Attribute o m apos) (e :: es) [] pos) (tMethS C m sp E ta t) := by
  refine ⟨fun pins s σ H Q I h => PySem.W.methodCall_KW (pl := pl) (thn (he.run pins s σ H _ I h) fun u s1 ⟨x, H1, I1, rx, b, dx, fs, ex, eb, l, q⟩ => ?_) ht⟩
  subst ex
  obtain rfl : u = Value.ref b := rx
  refine getmeth_ok I1 eb c hm l (PySem.W.callWith_K (first := [.ref b]) (h₀ := X.base) I.ok.mod.kin hm.kp (thn (ha.run pos pins s1 σ H1 _ I1 q) fun us s2 ⟨vs, H2, I2, r, q2⟩ => ⟨I2.kIn, ?_⟩) hst hpl)
  exact run_fnS (us := .ref b :: us) (vs := .ref b :: vs) F hr hb (hx σ) I2 (.cons rfl r) q2
end

/-! a def that may raise, its context None -/
theorem okN {P : Program} {w : World} {K : PySem.W.Frag} {mg : Str → Option Value} {base : Heap} {x qual : Str} {st : Stmt} {f : Addr} {fd : FuncData} {N ps : List Str} {k : Nat} {sp : Sp} (F : Fun K x qual st f fd) (S : FnScope N ps (defScope st)) (len : ∀ vs H Q E, sp vs H Q E → vs.length = ps.length)
    (hb : ∀ (cdv : Value) (A : Around) (outer : List Env) (s : Shared) (H : Hp) (vs : List V) (Q : VK) (E : XK), Room k (A.deeper (envOfC qual (defScope st) s.heap.objs.size f cdv)) → sp vs H Q E →
      ∃ t, PSs (cxOf (L2N.CX P w) P w K mg base N qual (defScope st) f cdv A outer s H E) (defBody st) t ∧ t { nx := fun _ H' => Q .non H', rt := Q } (start N vs) H) : FnOk P w K mg base (L2N.CX P w) (k + 1) f fd ps sp := by
  obtain ⟨oc, od, kV, doc, pm, an, cdv, ct, osl, rfl, lk, hcd⟩ := F.ex
  exact fn_of lk hcd S len fun A outer s H vs Q E hr hsp => hb cdv A outer s H vs Q E hr hsp
theorem okAt {p : Addr × Obj} {P : Program} {w : World} {K : PySem.W.Frag} {mg : Str → Option Value} {base : Heap} {x qual : Str} {st : Stmt} {f : Addr} {fd : FuncData} {N ps : List Str} {k : Nat} {sp : Sp} (F : Fun K x qual st f fd) (S : FnScope N ps (defScope st)) (len : ∀ vs H Q E, sp vs H Q E → vs.length = ps.length)
    (hb : ∀ (cdv : Value) (A : Around) (outer : List Env) (s : Shared) (H : Hp) (vs : List V) (Q : VK) (E : XK), L2H.Hot1 A p → L2H.RoomH k (A.deeper (envOfC qual (defScope st) s.heap.objs.size f cdv)) → sp vs H Q E →
      ∃ t, PSs (L2H.cxH CX0 P w K mg base N qual (defScope st) f cdv A outer s H E p).nox (defBody st) t ∧ t { nx := fun _ H' => Q .non H', rt := Q } (start N vs) H) : FnAt p P w K mg base (k + 1) f fd ps sp := by
  obtain ⟨oc, od, kV, doc, pm, an, cdv, ct, osl, rfl, lk, hcd⟩ := F.ex
  exact fn_at lk hcd S len fun A outer s H vs Q E h1 hr hsp => hb cdv A outer s H vs Q E h1 hr hsp
theorem takes0N {X : Cx} : L2N.Takes X (fun _ _ _ _ => False) := fun _ _ x => by
  obtain ⟨_, _, _, _, _, _, _, _, _, _, _, _, _, _, _, _, z⟩ := x
  exact z.elim
/-- the exception that a suite holds, hot -/
theorem hot_of {X : Cx} {a : Addr} {oe : Obj} {pn : List (Addr × Obj)} {cls : Value} {d : Option Addr} (hz : L2N.Zn cls d oe) (hf : ∃ vs, oe.data = .fields vs) : L2H.Hot1 (X.suite a pn).A (a, oe) := by
  obtain ⟨vs, e⟩ := hf
  exact ⟨rfl, vs, e, hz.2.2 vs e⟩
end Rp

namespace Rp
open PySem PySem.Spec PyProof.Rows L2

/-! readings over a lower heap: F holds what is known, H is any heap above it -/
section
variable {K : PySem.W.Frag} {σ : L2.St} {H F : Hp} {Q : VK} {v x y z : V} {ta tb te tc : TE} {r : R2} {D : Ends} {i j : Int} {n : Nat} {k : Bool} {p : Addr} {xs : List V} {tr t u : TS}
theorem g_var (h : σ[n]? = some (some v)) (q : Q v H) : tVar n σ H Q := ⟨v, h, q⟩
theorem g_c (q : Q v H) : tC v σ H Q := q
theorem g_op (q : ta σ H fun x H1 => tb σ H1 fun y H2 => r x y H2 Q) : tOp r ta tb σ H Q := q
theorem g_un {f : V → Hp → VK → Prop} (q : ta σ H fun x H1 => f x H1 Q) : tUn f ta σ H Q := q
theorem g_I0 {g : Int → Int → V} (q : Q (g i j) H) : rI0 g (.int i) (.int j) H Q := ⟨i, j, rfl, rfl, q⟩
theorem g_I {C : Int → Int → Prop} {g : Int → Int → V} (c : C i j) (q : Q (g i j) H) : rI C g (.int i) (.int j) H Q := ⟨i, j, rfl, rfl, c, q⟩
theorem g_U {g : Int → V} (q : Q (g i) H) : rU g (.int i) H Q := ⟨i, rfl, q⟩
theorem g_eqI (q : Q (.bl (decide (i = j))) H) : rEq (.int i) (.int j) H Q := by
  refine ⟨rfl, ?_⟩
  have e : decide (V.int i = V.int j) = decide (i = j) := by simp
  rw [e]
  exact q
theorem g_neI (q : Q (.bl (!decide (i = j))) H) : rNe (.int i) (.int j) H Q := by
  refine ⟨rfl, ?_⟩
  have e : decide (V.int i = V.int j) = decide (i = j) := by simp
  rw [e]
  exact q
theorem g_eqB {b c : Bool} (q : Q (.bl (decide (b = c))) H) : rEq (.bl b) (.bl c) H Q := by
  refine ⟨rfl, ?_⟩
  have e : decide (V.bl b = V.bl c) = decide (b = c) := by simp
  rw [e]
  exact q
theorem g_eqS {b c : Str} (q : Q (.bl (decide (b = c))) H) : rEq (.str b) (.str c) H Q := by
  refine ⟨rfl, ?_⟩
  have e : decide (V.str b = V.str c) = decide (b = c) := by simp
  rw [e]
  exact q
theorem g_neS {b c : Str} (q : Q (.bl (!decide (b = c))) H) : rNe (.str b) (.str c) H Q := by
  refine ⟨rfl, ?_⟩
  have e : decide (V.str b = V.str c) = decide (b = c) := by simp
  rw [e]
  exact q
theorem g_isN (q : Q (.bl (decide (x = .non))) H) : rIsN x .non H Q := ⟨rfl, q⟩
theorem g_notN (q : Q (.bl (!decide (x = .non))) H) : rNotN x .non H Q := ⟨rfl, q⟩
theorem g_isB {b c : Bool} (q : Q (.bl (decide (b = c))) H) : rIsB (.bl b) (.bl c) H Q := ⟨b, c, rfl, rfl, q⟩
theorem g_notB {b c : Bool} (q : Q (.bl (!decide (b = c))) H) : rNotB (.bl b) (.bl c) H Q := ⟨b, c, rfl, rfl, q⟩
theorem g_catS {a b : Str} (h : a.length + b.length ≤ sizeLine) (q : Q (.str (a ++ b)) H) : rCatS (.str a) (.str b) H Q := ⟨a, b, rfl, rfl, h, q⟩
theorem g_rep {a : Str} (h0 : 0 ≤ i) (h1 : i ≤ 4096) (hz : a.length ≤ 1024) (q : Q (.str (strRep a i)) H) : rStrRep (.str a) (.int i) H Q := ⟨a, i, rfl, rfl, h0, h1, hz, q⟩
theorem g_tt {R : Bool → Hp → Prop} (q : te σ H fun x H' => ∃ k, x = .bl k ∧ R k H') : tTest te σ H R := q
theorem g_tB {R : Bool → Hp → Prop} (q : te σ H fun x H' => ∃ k, x = .bl k ∧ R k H') : tB te σ H R := q
theorem g_bl {R : Bool → Hp → Prop} (q : R k H) : ∃ k', V.bl k = .bl k' ∧ R k' H := ⟨k, rfl, q⟩
theorem g_blA {A : Bool → Prop} (q : A k) : ∃ k', V.bl k = .bl k' ∧ A k' := ⟨k, rfl, q⟩
theorem g_and {a b : TT} {R : Bool → Hp → Prop} (q : a σ H fun c H1 => if c = true then b σ H1 R else R false H1) : tAnd a b σ H R := q
theorem g_or {a b : TT} {R : Bool → Hp → Prop} (q : a σ H fun c H1 => if c = true then R true H1 else b σ H1 R) : tOr a b σ H R := q
theorem g_not {a : TT} {R : Bool → Hp → Prop} (q : a σ H fun c H1 => R (!c) H1) : tNot a σ H R := q
theorem g_andV (q : ta σ H fun x H1 => ∃ c, x = .bl c ∧ if c = true then tb σ H1 Q else Q (.bl false) H1) : tAndV ta tb σ H Q := q
theorem g_orV (q : ta σ H fun x H1 => ∃ c, x = .bl c ∧ if c = true then Q (.bl true) H1 else tb σ H1 Q) : tOrV ta tb σ H Q := q
theorem g_notV (q : ta σ H fun x H1 => ∃ c, x = .bl c ∧ Q (.bl (!c)) H1) : tNotV ta σ H Q := q
theorem g_if {c : TT} (q : c σ H fun b H1 => if b = true then ta σ H1 Q else tb σ H1 Q) : tIf c ta tb σ H Q := q
theorem g_nil {R : List V → Hp → Prop} (q : R [] H) : tNil σ H R := q
theorem g_cons {s : TA} {R : List V → Hp → Prop} (q : ta σ H fun x H1 => s σ H1 fun xs H2 => R (x :: xs) H2) : tCons ta s σ H R := q
theorem g_chn {w : V → TE} (q : ta σ H fun x H1 => w x σ H1 Q) : tChn ta w σ H Q := q
theorem g_cl (q : tb σ H fun y H1 => r x y H1 Q) : cLast r tb x σ H Q := q
theorem g_cc {w : V → TE} (q : tb σ H fun y H1 => r x y H1 fun z H2 => ∃ k, z = .bl k ∧ if k = true then w y σ H2 Q else Q (.bl false) H2) : cCons r tb w x σ H Q := q
theorem g_fld {f : Str} (q : ta σ H fun x H1 => ∃ a C dx fs v, x = .ref a ∧ H1 a = some (.ins C dx fs) ∧ Cls K C ∧ NoAttr K C f ∧ fs.lookup f = some v ∧ Q v H1) : tFld K ta f σ H Q := q
theorem g_cB {s : List V → Hp → VK → Prop} {as : TA} (q : as σ H fun vs H1 => s vs H1 Q) : tCB s as σ H Q := q
theorem g_call {sp : Sp} {E : XK} {as : TA} (q : as σ H fun vs H1 => sp vs H1 Q E) : tCall sp [] E as σ H Q := by
  unfold tCall
  have e : (fun (vs : List V) H1 => sp (vs ++ []) H1 Q E) = fun vs H1 => sp vs H1 Q E := by
    funext vs H1
    rw [List.append_nil]
  rw [e]
  exact q
theorem g_callS {sp : Sp} {E : L2.St → XK} {as : TA} (q : as σ H fun vs H1 => sp vs H1 Q (E σ)) : tCallS sp E as σ H Q := q
theorem g_meth {C : Addr} {m : Str} {sp : Sp} {E : XK} {as : TA} (q : ta σ H fun x H1 => ∃ a dx fs, x = .ref a ∧ H1 a = some (.ins C dx fs) ∧ fs.lookup m = none ∧ as σ H1 fun vs H2 => sp (x :: vs) H2 Q E) : tMeth C m sp [] E ta as σ H Q := by
  unfold tMeth
  have e : (fun (x : V) H1 => ∃ a dx fs, x = .ref a ∧ H1 a = some (.ins C dx fs) ∧ fs.lookup m = none ∧ as σ H1 fun vs H2 => sp (x :: (vs ++ [])) H2 Q E) = fun x H1 => ∃ a dx fs, x = .ref a ∧ H1 a = some (.ins C dx fs) ∧ fs.lookup m = none ∧ as σ H1 fun vs H2 => sp (x :: vs) H2 Q E := by
    funext x H1
    simp only [List.append_nil]
  rw [e]
  exact q
theorem g_methS {C : Addr} {m : Str} {sp : Sp} {E : L2.St → XK} {as : TA} (q : ta σ H fun x H1 => ∃ a dx fs, x = .ref a ∧ H1 a = some (.ins C dx fs) ∧ fs.lookup m = none ∧ as σ H1 fun vs H2 => sp (x :: vs) H2 Q (E σ)) : tMethS C m sp E ta as σ H Q := q
/-- the receiver is known -/
theorem g_rcv {C dx : Addr} {m : Str} {fs : List (Str × V)} {A : Prop} (hF : Same F H) (h : F p = some (.ins C dx fs)) (l : fs.lookup m = none) (q : A) : ∃ a dx fs, V.ref p = .ref a ∧ H a = some (.ins C dx fs) ∧ fs.lookup m = none ∧ A :=
  ⟨p, dx, fs, rfl, hF _ _ h, l, q⟩
theorem g_get {C dx : Addr} {f : Str} {fs : List (Str × V)} {A : V → Prop} (hF : Same F H) (h : F p = some (.ins C dx fs)) (c : Cls K C) (n : NoAttr K C f) (l : fs.lookup f = some v) (q : A v) :
    ∃ a C dx fs v, V.ref p = .ref a ∧ H a = some (.ins C dx fs) ∧ Cls K C ∧ NoAttr K C f ∧ fs.lookup f = some v ∧ A v := ⟨p, C, dx, fs, v, rfl, hF _ _ h, c, n, l, q⟩
/-- new: a tuple, a list; kept, or forgotten -/
theorem sUp {F H : Hp} (h : Same F H) {p : Addr} {o : HO} : Same (upd F p o) (upd H p o) := fun b u e => by
  by_cases hb : b = p
  · subst hb
    rw [upd_same] at e ⊢
    exact e
  · rw [upd_ne hb] at e ⊢
    exact h b u e
theorem same_new {F : Hp} {p : Addr} {o : HO} (h : F p = none) : Same F (upd F p o) := fun b u e => by
  rw [upd_ne (ne_of_none e h)]
  exact e
theorem sLow {F F' H : Hp} (h : Same F H) (e : Same F' F) : Same F' H := fun b u z => h b u (e b u z)
theorem sFr {F H : Hp} (h : Same F H) {p : Addr} (e : H p = none) : F p = none := h.free e
/-- free -/
def Nn (F : Hp) (p : Addr) : Prop := F p = none
theorem sUpE {F H H' : Hp} {p : Addr} {o : HO} (h : Same F H) (e : upd H p o = H') : Same (upd F p o) H' := e ▸ sUp h
/-- a new object of n items -/
def NewO (n : Nat) (o : HO) (R : Addr → Hp → Prop) (H : Hp) : Prop := n ≤ sizeLine ∧ ∀ p, H p = none → R p (upd H p o)
theorem g_tup {as : TA} (q : as σ H fun xs H1 => NewO xs.length (.tup xs) (fun p H2 => Q (.ref p) H2) H1) : tTup as σ H Q := q
theorem g_lst {as : TA} (q : as σ H fun xs H1 => NewO xs.length (.lst xs) (fun p H2 => Q (.ref p) H2) H1) : tLst as σ H Q := q
theorem g_newO {o : HO} {R : Addr → Hp → Prop} (hF : Same F H) (hl : n ≤ 1000) (q : ∀ p H', Nn F p → Same (upd F p o) H' → R p H') : NewO n o R H :=
  ⟨Nat.le_trans hl (by decide), fun p hp => q p _ (sFr hF hp) (sUp hF)⟩
/-- an instance of an own class, and what its __init__ promises -/
def MakeO (C : Addr) (sp : Sp) (E : XK) (vs : List V) (R : Addr → Hp → Prop) (H : Hp) : Prop := ∀ x dx, H x = none → H dx = none → dx ≠ x → sp (.ref x :: vs) (upd (upd H dx (.own x)) x (.ins C dx [])) (fun v H2 => v = .non ∧ R x H2) E
theorem g_make {C : Addr} {sp : Sp} {E : XK} {as : TA} (q : as σ H fun vs H1 => MakeO C sp E vs (fun p H2 => Q (.ref p) H2) H1) : tMake C sp [] E as σ H Q := by
  unfold tMake
  have e : (fun (vs : List V) H1 => ∀ x dx, H1 x = none → H1 dx = none → dx ≠ x → sp (.ref x :: (vs ++ [])) (upd (upd H1 dx (.own x)) x (.ins C dx [])) (fun v H2 => v = .non ∧ Q (.ref x) H2) E) = fun vs H1 => MakeO C sp E vs (fun p H2 => Q (.ref p) H2) H1 := by
    funext vs H1
    rw [List.append_nil]
    rfl
  rw [e]
  exact q
theorem g_slL {lo hi : Option Int} (hF : Same F H) (h : SqL K F p xs) (q : ∀ l H', Nn F l → Same (upd F l (.lst (cutV xs lo hi))) H' → Q (.ref l) H') : rSlL K (.ref p) lo hi H Q :=
  ⟨p, xs, rfl, Same.seq hF h, fun l hl => q l _ (sFr hF hl) (sUp hF)⟩
theorem sqL_of (hF : Same F H) (h : F p = some (.lst xs)) : SqL K H p xs := .inl (.inl (hF _ _ h))
theorem sqT_of (hF : Same F H) (h : F p = some (.tup xs)) : SqT K H p xs := .inl (.inl (hF _ _ h))
theorem sSqT {F H : Hp} (e : Same F H) (h : SqT K F p xs) : SqT K H p xs := by
  rcases h with (h | ⟨o, h⟩) | h
  · exact .inl (.inl (e _ _ h))
  · exact .inl (.inr ⟨o, e _ _ h⟩)
  · exact .inr h
theorem g_ixL (h : SqL K H p xs) (e : atI xs i = some v) (q : Q v H) : rIxL K (.ref p) (.int i) H Q := ⟨p, xs, i, v, rfl, rfl, h, e, q⟩
theorem g_ixT (h : SqT K H p xs) (e : atI xs i = some v) (q : Q v H) : rIxT K (.ref p) (.int i) H Q := ⟨p, xs, i, v, rfl, rfl, h, e, q⟩
theorem g_in {neg : Bool} (h : SqL K H p xs ∨ SqT K H p xs) (hx : flatV x = true) (ha : xs.all flatV = true) (q : Q (.bl (if neg then !inV x xs else inV x xs)) H) : rIn K neg x (.ref p) H Q := ⟨p, xs, rfl, h, hx, ha, q⟩
theorem g_len (h : SqL K H p xs) (q : Q (.int (xs.length : Nat)) H) : rLen K [.ref p] H Q := ⟨.ref p, xs.length, rfl, .inl ⟨xs, h, rfl⟩, q⟩
theorem g_lenT (h : SqT K H p xs) (q : Q (.int (xs.length : Nat)) H) : rLen K [.ref p] H Q := ⟨.ref p, xs.length, rfl, .inr ⟨xs, h, rfl⟩, q⟩
theorem g_lenS {s : Str} (h : s.length ≤ sizeLine) (q : Q (.int (s.length : Nat)) H) : rLen K [.str s] H Q := ⟨.str s, s.length, rfl, ⟨h, rfl⟩, q⟩
theorem g_int1 (q : Q (.int i) H) : rInt1 [.int i] H Q := .inl ⟨i, rfl, q⟩
theorem g_int1b (q : Q (.int (if k then 1 else 0)) H) : rInt1 [.bl k] H Q := .inr ⟨k, rfl, q⟩
theorem g_max2 (q : Q (.int (if j > i then j else i)) H) : rMax2 [.int i, .int j] H Q := ⟨i, j, rfl, q⟩
theorem g_min2 (q : Q (.int (if j < i then j else i)) H) : rMin2 [.int i, .int j] H Q := ⟨i, j, rfl, q⟩
theorem g_strI (h : i.natAbs.log2 < 1920) (q : Q (.str (toString i)) H) : rStrI [.int i] H Q := ⟨i, rfl, h, q⟩
theorem g_isi {c : V} {t w : Value} {b : Bool} (hc : ClsV c w) (hx : TyX K H x t) (e : PySem.W.kitOne K t w = some b) (q : Q (.bl b) H) : rIsi K [x, c] H Q := ⟨x, c, t, w, b, rfl, hc, hx, e, q⟩
theorem g_typ {T : String} (h : TyB K H x T) (q : Q (.ty T) H) : rTyp K [x] H Q := ⟨x, T, rfl, h, q⟩
theorem g_isT {a b : String} (q : Q (.bl (decide (a = b))) H) : rIT (.ty a) (.ty b) H Q := ⟨a, b, rfl, rfl, q⟩
/-! statements -/
variable {nN nB nC : L2.St → Hp → Prop} {nR : VK}
theorem g_seq (q : t (Ends.mk (u (Ends.mk nN nR nB nC)) nR nB nC) σ H) : tSeq t u (Ends.mk nN nR nB nC) σ H := q
theorem g_set {n : Nat} (q : te σ H fun x H1 => u (Ends.mk nN nR nB nC) (σ.set n (some x)) H1) : tSeq (tAsg te (gName n)) u (Ends.mk nN nR nB nC) σ H := q
theorem g_set1 {n : Nat} (q : te σ H fun x H1 => nN (σ.set n (some x)) H1) : tAsg te (gName n) (Ends.mk nN nR nB nC) σ H := q
theorem g_asg {g : TG} (q : te σ H fun x H1 => g x σ H1 nN) : tAsg te g (Ends.mk nN nR nB nC) σ H := q
theorem g_ret (q : te σ H nR) : tRet te (Ends.mk nN nR nB nC) σ H := q
theorem g_retN (q : nR .non H) : tRetN (Ends.mk nN nR nB nC) σ H := q
theorem g_ifS {c : TT} (q : c σ H fun b H1 => if b = true then t (Ends.mk nN nR nB nC) σ H1 else u (Ends.mk nN nR nB nC) σ H1) : tIfS c t u (Ends.mk nN nR nB nC) σ H := q
theorem g_drop (q : te σ H fun _ H1 => nN σ H1) : tDrop te (Ends.mk nN nR nB nC) σ H := q
theorem g_next (q : nN σ H) : tNext (Ends.mk nN nR nB nC) σ H := q
theorem g_cont (q : nC σ H) : tCont (Ends.mk nN nR nB nC) σ H := q
theorem g_brk (q : nB σ H) : tBreak (Ends.mk nN nR nB nC) σ H := q
def PutO (K : PySem.W.Frag) (f : Str) (y : V) (R : Hp → Prop) (x : V) (H : Hp) : Prop := ∃ a C dx fs, x = .ref a ∧ H a = some (.ins C dx fs) ∧ Cls K C ∧ NoAttr K C f ∧ fs.length < 1000 ∧ R (upd H a (.ins C dx (putF f y fs)))
theorem g_put {C dx : Addr} {f : Str} {fs fs' : List (Str × V)} {R : Hp → Prop} (hF : Same F H) (h : F p = some (.ins C dx fs)) (c : Cls K C) (n : NoAttr K C f) (hl : fs.length < 1000) (e : putF f y fs = fs') (q : ∀ H', Same (upd F p (.ins C dx fs')) H' → R H') : PutO K f y R (.ref p) H :=
  ⟨p, C, dx, fs, rfl, hF _ _ h, c, n, hl, by rw [e]; exact q _ (sUp hF)⟩
theorem g_sfld {tv : TE} {f : Str} (q : tv σ H fun y H1 => ta σ H1 fun x H2 => PutO K f y (fun H3 => nN σ H3) x H2) : sFld K ta tv f (Ends.mk nN nR nB nC) σ H := q
/-! ways -/
theorem w_true {A B : Prop} (q : A) : if true = true then A else B := by rw [if_pos rfl]; exact q
theorem w_false {A B : Prop} (q : B) : if false = true then A else B := by rw [if_neg Bool.false_ne_true]; exact q
theorem w_dec {c A B : Prop} [Decidable c] (h1 : c → A) (h2 : ¬ c → B) : if decide c = true then A else B := by
  by_cases h : c
  · rw [if_pos (decide_eq_true h)]; exact h1 h
  · rw [if_neg (by simpa using h)]; exact h2 h
theorem w_ndec {c A B : Prop} [Decidable c] (h1 : ¬ c → A) (h2 : c → B) : if (!decide c) = true then A else B := by
  by_cases h : c
  · rw [if_neg (by simpa using h)]; exact h2 h
  · rw [if_pos (by simpa using h)]; exact h1 h
theorem w_bool {A B : Prop} {b : Bool} (h1 : b = true → A) (h2 : b = false → B) : if b = true then A else B := by
  cases b with
  | true => exact w_true (h1 rfl)
  | false => exact w_false (h2 rfl)
/-! tests that change nothing: their answer, once -/
def An (t : TT) (σ : L2.St) (H : Hp) (b : Bool) : Prop := ∀ R : Bool → Hp → Prop, R b H → t σ H R
def Vl (t : TE) (σ : L2.St) (H : Hp) (v : V) : Prop := ∀ R : VK, R v H → t σ H R
theorem an_and {a b : TT} {m l : Bool} (h1 : An a σ H m) (h2 : m = true → An b σ H l) : An (tAnd a b) σ H (m && l) := fun R q => h1 _ (by
  cases m with
  | true => exact w_true (h2 rfl R q)
  | false => exact w_false q)
theorem an_or {a b : TT} {m l : Bool} (h1 : An a σ H m) (h2 : m = false → An b σ H l) : An (tOr a b) σ H (m || l) := fun R q => h1 _ (by
  cases m with
  | true => exact w_true q
  | false => exact w_false (h2 rfl R q))
theorem an_not {a : TT} {m : Bool} (h1 : An a σ H m) : An (tNot a) σ H (!m) := fun R q => h1 _ q
theorem an_ifS {D : Ends} {c : TT} {b : Bool} (h : An c σ H b) (h1 : b = true → t D σ H) (h2 : b = false → u D σ H) : tIfS c t u D σ H := h _ (w_bool h1 h2)
end
/-! promises over a lower heap -/
def spG (R : List V → Hp → (V → Hp → Prop) → (Value → Option Addr → Hp → Prop) → Prop) : Sp := fun vs H Q E => ∃ F, Same F H ∧ R vs F (fun v F' => ∀ H', Same F' H' → Q v H') fun c d F' => ∀ H', Same F' H' → E c d H'
theorem g_sp {R : List V → Hp → (V → Hp → Prop) → (Value → Option Addr → Hp → Prop) → Prop} {F H : Hp} {vs : List V} {Q : VK} {E : XK} (hF : Same F H) (q : R vs F (fun v F' => ∀ H', Same F' H' → Q v H') fun c d F' => ∀ H', Same F' H' → E c d H') : spG R vs H Q E := ⟨F, hF, q⟩
end Rp
namespace Rp
open PySem PySem.Spec PyProof.Rows L2
theorem pss_ex {X : Cx} {ι : Type} {c : ι → Prop} {body : List Stmt} {t : ι → TS} (h : ∀ i, c i → PSs X body (t i)) : PSs X body (fun D σ H => ∃ i, c i ∧ t i D σ H) := ⟨fun pins s σ H D I q => let ⟨i, hc, q⟩ := q; (h i hc).run pins s σ H D I q⟩
theorem roomMark {k : Nat} {A : Around} {v : Option Value} (h : L2H.RoomH k A) : L2H.RoomH k (A.mark v) := ⟨h.dp, h.un⟩
theorem kit_same {K : PySem.W.Frag} {c : Value} : PySem.W.kitOne K c c = some true := by
  unfold PySem.W.kitOne
  rw [if_pos (by simp)]
theorem kit_sub {K : PySem.W.Frag} {D C : Addr} {b : Bool} (h0 : (Value.ref D == Value.ref C) = false) (h1 : PySem.W.isClsIn K C = true) (h2 : PySem.W.typeIn K (.ref C) = some (.type "type")) (h3 : PySem.W.subIn K (.ref D) (.ref C) = some b) : PySem.W.kitOne K (.ref D) (.ref C) = some b := by
  unfold PySem.W.kitOne
  rw [h0, if_neg Bool.false_ne_true]
  have h1' : (PySem.W.clsIn K C).isSome = true := h1
  show (if ((PySem.W.clsIn K C).isSome && PySem.W.typeIn K (.ref C) == some (.type "type")) = true then PySem.W.subIn K (.ref D) (.ref C) else none) = some b
  have e2 : ((PySem.W.clsIn K C).isSome && PySem.W.typeIn K (.ref C) == some (.type "type")) = true := by rw [h1', h2] <;> rfl
  rw [if_pos e2]
  exact h3
theorem kit_ve {K : PySem.W.Frag} {D : Addr} (h : PySem.W.subIn K (.ref D) (.type "ValueError") = some true) : PySem.W.kitOne K (.ref D) (.type "ValueError") = some true := by
  show (if (Value.ref D == Value.type "ValueError") = true then some true else (if PySem.W.kitMeta "ValueError" = true then PySem.W.subIn K (.ref D) (.type "ValueError") else none)) = some true
  rw [if_neg (by intro z; cases z), if_pos (by decide +kernel), h]
theorem exm_sub {K : PySem.W.Frag} {D C : Addr} {b : Bool} (h0 : PySem.W.subIn K (.ref C) (.type "BaseException") = some true) (h1 : PySem.W.isClsIn K C = true) (h2 : PySem.W.typeIn K (.ref C) = some (.type "type")) (h3 : PySem.W.subIn K (.ref D) (.ref C) = some b) : PySem.W.exmOne K (.ref D) (.ref C) = some b := by
  have h1' : (PySem.W.clsIn K C).isSome = true := h1
  have e1 : (PySem.W.subIn K (.ref C) (.type "BaseException") == some true) = true := by rw [h0] <;> rfl
  have e2 : ((PySem.W.clsIn K C).isSome && PySem.W.typeIn K (.ref C) == some (.type "type")) = true := by rw [h1', h2] <;> rfl
  unfold PySem.W.exmOne
  rw [if_pos e1]
  show (if ((PySem.W.clsIn K C).isSome && PySem.W.typeIn K (.ref C) == some (.type "type")) = true then PySem.W.subIn K (.ref D) (.ref C) else none) = some b
  rw [if_pos e2]
  exact h3
/-- what the law promises -/
def spLaw (K : PySem.W.Frag) : Sp := spG fun vs F Kk _ => ∃ (p : Addr) (ns : List Int), vs = [.ref p] ∧ SqL K F p (ns.map V.int) ∧ ns.length ≤ 63 ∧ ∀ F', Same F F' → Kk (.bl true) F'
end Rp
namespace Rp
open PySem PySem.Spec PyProof.Rows L2
/-! kinds -/
inductive Kd (F : Hp) : V → Prop where
  | non : Kd F .non
  | bl (b : Bool) : Kd F (.bl b)
  | int (i : Int) : Kd F (.int i)
  | str (x : Str) : Kd F (.str x)
  | lst {p : Addr} {xs : List V} (h : F p = some (.lst xs)) : Kd F (.ref p)
  | tup {p : Addr} {xs : List V} (h : F p = some (.tup xs)) : Kd F (.ref p)
  | dK {p : Addr} {kvs : List (Key × V)} (h : F p = some (.dK kvs)) : Kd F (.ref p)
def isInt : V → Bool
  | .int _ => true
  | _ => false
theorem Kd.mono {F F' : Hp} {x : V} (e : Same F F') (h : Kd F x) : Kd F' x := by
  cases h with
  | non => exact .non
  | bl b => exact .bl b
  | int i => exact .int i
  | str x => exact .str x
  | lst h => exact .lst (e _ _ h)
  | tup h => exact .tup (e _ _ h)
  | dK h => exact .dK (e _ _ h)
/-- type(x) is int -/
theorem Kd.typ {K : PySem.W.Frag} {F H : Hp} {x : V} {Q : VK} (h : Kd F x) (hF : Same F H) (q : Q (.bl (isInt x)) H) : rTyp K [x] H fun y H1 => rIT y (.ty "int") H1 Q := by
  cases h with
  | non => exact ⟨_, _, rfl, .non, "NoneType", "int", rfl, rfl, q⟩
  | bl b => exact ⟨_, _, rfl, .bl b, "bool", "int", rfl, rfl, q⟩
  | int i => exact ⟨_, _, rfl, .int i, "int", "int", rfl, rfl, q⟩
  | str z => exact ⟨_, _, rfl, .str z, "str", "int", rfl, rfl, q⟩
  | lst h => exact ⟨_, _, rfl, .lst (sqL_of hF h), "list", "int", rfl, rfl, q⟩
  | tup h => exact ⟨_, _, rfl, .tup (sqT_of hF h), "tuple", "int", rfl, rfl, q⟩
  | dK h => exact ⟨_, _, rfl, .dK (hF _ _ h), "dict", "int", rfl, rfl, q⟩
def cell (ns : List Int) (i : Int) : Int := ns.getD i.toNat 0
def mixed (c i : Int) : Int := (c * 48271 + 7919 * (i + 1) * (i + 3)) % 2147483647
end Rp
namespace Rp
open PySem PySem.Spec PyProof.Rows L2
theorem upd_id {F : Hp} {p : Addr} {o : HO} (h : F p = some o) : upd F p o = F := by
  funext b
  by_cases e : b = p
  · subst e
    rw [upd_same, h]
  · rw [upd_ne e]
end Rp
namespace Rp
open PySem PySem.Spec PyProof.Rows L2
theorem w_nt {A B : Prop} (q : B) : if (!true) = true then A else B := w_false q
theorem w_nf {A B : Prop} (q : A) : if (!false) = true then A else B := w_true q
theorem isInt_int {i : Int} : isInt (.int i) = true := rfl
end Rp
namespace Rp
open PySem PySem.Spec PyProof.Rows L2
theorem g_eqD {K : PySem.W.Frag} {H : Hp} {x y : V} {Q : VK} {d e : PyData} (h1 : Dp K H x d) (h2 : Dp K H y e) (s1 : SeqAt.shaped d = true) (s2 : SeqAt.shaped e = true) (q : Q (.bl (PyData.eqv d e)) H) : rEqD K x y H Q := ⟨d, e, h1, h2, s1, s2, q⟩
theorem g_neD {K : PySem.W.Frag} {H : Hp} {x y : V} {Q : VK} {d e : PyData} (h1 : Dp K H x d) (h2 : Dp K H y e) (s1 : SeqAt.shaped d = true) (s2 : SeqAt.shaped e = true) (q : Q (.bl (!PyData.eqv d e)) H) : rNeD K x y H Q := ⟨d, e, h1, h2, s1, s2, q⟩
def isBl : V → Bool
  | .bl _ => true
  | _ => false
theorem Kd.isi {K : PySem.W.Frag} {F H : Hp} {x : V} {Q : VK} (h : Kd F x) (hF : Same F H) (q : Q (.bl (isInt x || isBl x)) H) : rIsi K [x, .ty "int"] H Q := by
  cases h with
  | non => exact ⟨_, _, _, _, false, rfl, .ty _, .base .non, kit_ty (by decide +kernel), q⟩
  | bl b => exact ⟨_, _, _, _, true, rfl, .ty _, .base (.bl b), kit_ty (by decide +kernel), q⟩
  | int i => exact ⟨_, _, _, _, true, rfl, .ty _, .base (.int i), kit_ty (by decide +kernel), q⟩
  | str z => exact ⟨_, _, _, _, false, rfl, .ty _, .base (.str z), kit_ty (by decide +kernel), q⟩
  | lst h => exact ⟨_, _, _, _, false, rfl, .ty _, .base (.lst (hF _ _ h)), kit_ty (by decide +kernel), q⟩
  | tup h => exact ⟨_, _, _, _, false, rfl, .ty _, .base (.tup (hF _ _ h)), kit_ty (by decide +kernel), q⟩
  | dK h => exact ⟨_, _, _, _, false, rfl, .ty _, .base (.dK (hF _ _ h)), kit_ty (by decide +kernel), q⟩
theorem Kd.isb {K : PySem.W.Frag} {F H : Hp} {x : V} {Q : VK} (h : Kd F x) (hF : Same F H) (q : Q (.bl (isBl x)) H) : rIsi K [x, .ty "bool"] H Q := by
  cases h with
  | non => exact ⟨_, _, _, _, false, rfl, .ty _, .base .non, kit_ty (by decide +kernel), q⟩
  | bl b => exact ⟨_, _, _, _, true, rfl, .ty _, .base (.bl b), kit_ty (by decide +kernel), q⟩
  | int i => exact ⟨_, _, _, _, false, rfl, .ty _, .base (.int i), kit_ty (by decide +kernel), q⟩
  | str z => exact ⟨_, _, _, _, false, rfl, .ty _, .base (.str z), kit_ty (by decide +kernel), q⟩
  | lst h => exact ⟨_, _, _, _, false, rfl, .ty _, .base (.lst (hF _ _ h)), kit_ty (by decide +kernel), q⟩
  | tup h => exact ⟨_, _, _, _, false, rfl, .ty _, .base (.tup (hF _ _ h)), kit_ty (by decide +kernel), q⟩
  | dK h => exact ⟨_, _, _, _, false, rfl, .ty _, .base (.dK (hF _ _ h)), kit_ty (by decide +kernel), q⟩
theorem isi_tup {K : PySem.W.Frag} {F H : Hp} {p : Addr} {xs : List V} {Q : VK} (hF : Same F H) (h : F p = some (.tup xs)) (q : Q (.bl true) H) : rIsi K [.ref p, .ty "tuple"] H Q := ⟨_, _, _, _, true, rfl, .ty _, .base (.tup (hF _ _ h)), kit_ty (by decide +kernel), q⟩
theorem isi_lst {K : PySem.W.Frag} {F H : Hp} {p : Addr} {xs : List V} {Q : VK} (hF : Same F H) (h : F p = some (.lst xs)) (q : Q (.bl true) H) : rIsi K [.ref p, .ty "list"] H Q := ⟨_, _, _, _, true, rfl, .ty _, .base (.lst (hF _ _ h)), kit_ty (by decide +kernel), q⟩
theorem atI_of {xs : List V} {i : Int} {v : V} (h0 : 0 ≤ i) (h : xs[i.toNat]? = some v) : atI xs i = some v := at_of (j := i.toNat) (by omega) h
theorem cell_in {ns : List Int} {i : Int} (h0 : 0 ≤ i) (h : i < (ns.map V.int).length) : atI (ns.map V.int) i = some (.int (cell ns i)) := by
  rw [List.length_map] at h
  have hl : i.toNat < ns.length := by omega
  refine atI_of h0 ?_
  unfold cell
  rw [List.getElem?_map, List.getD_eq_getElem?_getD, List.getElem?_eq_getElem hl]
  rfl
theorem cell_off {ns : List Int} {i : Int} (h0 : 0 ≤ i) (h : ¬ i < (ns.map V.int).length) : cell ns i = 0 := by
  rw [List.length_map] at h
  unfold cell
  rw [List.getD_eq_getElem?_getD, List.getElem?_eq_none (by omega)]
  rfl
theorem isE_of {K : PySem.W.Frag} {D a C : Addr} {b : Bool} {H : Hp} {Q : VK} (h : PySem.W.kitOne K (.ref D) (.ref C) = some b) (q : Q (.bl b) H) : rIsE K D a [.ref a, .ref C] H Q := ⟨_, _, b, rfl, fun _ z => z, h, q⟩
theorem isE_ty {K : PySem.W.Frag} {D a : Addr} {n : String} {b : Bool} {H : Hp} {Q : VK} (h : PySem.W.kitOne K (.ref D) (.type n) = some b) (q : Q (.bl b) H) : rIsE K D a [.ref a, .ty n] H Q := ⟨_, _, b, rfl, fun _ z => z, h, q⟩
theorem mixed_nn (c i : Int) : 0 ≤ mixed c i := Int.emod_nonneg _ (by decide)
theorem mixed_lt (c i : Int) : mixed c i < 2147483647 := Int.emod_lt_of_pos _ (by decide)
end Rp
namespace Rp
open PySem PySem.Spec PyProof.Rows L2
theorem g_mk {C : Addr} {R : List V → Hp → (V → Hp → Prop) → (Value → Option Addr → Hp → Prop) → Prop} {E : XK} {vs : List V} {W : Addr → Hp → Prop} {F H : Hp} (hF : Same F H)
    (q : ∀ x dx, Nn F x → Nn F dx → dx ≠ x → R (.ref x :: vs) (upd (upd F dx (.own x)) x (.ins C dx [])) (fun v F' => ∀ H', Same F' H' → v = .non ∧ W x H') fun c d F' => ∀ H', Same F' H' → E c d H') : MakeO C (spG R) E vs W H :=
  fun x dx hx hd ne => ⟨_, sUp (sUp hF), q x dx (sFr hF hx) (sFr hF hd) ne⟩
theorem g_sl {r : V → Option Int → Option Int → Hp → VK → Prop} {te : TE} {tl th : TO} {σ : L2.St} {H : Hp} {Q : VK} (q : te σ H fun x H1 => tl σ H1 fun l H2 => th σ H2 fun u H3 => r x l u H3 Q) : tSl r te tl th σ H Q := q
theorem g_noP {σ : L2.St} {H : Hp} {Q : Option Int → Hp → Prop} (q : Q none H) : tNoPart σ H Q := q
theorem g_part {t : TE} {σ : L2.St} {H : Hp} {Q : Option Int → Hp → Prop} (q : t σ H fun x H1 => ∃ i, x = .int i ∧ Q (some i) H1) : tPart t σ H Q := q
theorem g_exI {A : Int → Prop} {i : Int} (q : A i) : ∃ j, V.int i = .int j ∧ A j := ⟨i, rfl, q⟩
/-! loops over a lower heap -/
def Lp (J : It) (g : TG) (tb : TS) (n : L2.St → Hp → Prop) (r : VK) (σ : L2.St) (H : Hp) : Prop := ∃ W : Nat → Nat → L2.St → Hp → Prop, (∃ m, W 0 m σ H) ∧ ∀ i m σ H, W i m σ H →
  (J.stop i H ∧ n σ H) ∨ (J.go i H ∧ ∃ N : L2.St → Hp → Prop, (∀ σ' H', N σ' H' → ∃ m', m' < m ∧ W (i + 1) m' σ' H') ∧ ∀ x H', J.yld i H x H' → g x σ H' fun σ2 H2 => tb (Ends.mk N r n N) σ2 H2)
def Up (P : L2.St → Hp → Prop) : L2.St → Hp → Prop := fun σ H => ∃ F, Same F H ∧ P σ F
section
variable {K : PySem.W.Frag} {σ : L2.St} {H F : Hp} {v : V} {tl : TE} {g : TG} {tb : TS} {p : Addr} {xs : List V} {lo : Int} {n : Nat} {nN nB nC : L2.St → Hp → Prop} {nR : VK}
theorem g_name {Q : L2.St → Hp → Prop} (q : Q (σ.set n (some v)) H) : gName n v σ H Q := q
theorem g_forL (q : tl σ H fun x H1 => ∃ a, x = .ref a ∧ (∃ xs, SqL K H1 a xs) ∧ Lp (Itl K a) g tb nN nR σ H1) : tFor (iList K tl) g tb (Ends.mk nN nR nB nC) σ H := q
theorem g_forT (q : tl σ H fun x H1 => ∃ a, x = .ref a ∧ (∃ xs, SqT K H1 a xs) ∧ Lp (Itt K a) g tb nN nR σ H1) : tFor (iTup K tl) g tb (Ends.mk nN nR nB nC) σ H := q
theorem g_itL {A : Addr → Prop} (h : SqL K H p xs) (q : A p) : ∃ a, V.ref p = .ref a ∧ (∃ xs, SqL K H a xs) ∧ A a := ⟨p, rfl, ⟨xs, h⟩, q⟩
theorem g_itT {A : Addr → Prop} (h : SqT K H p xs) (q : A p) : ∃ a, V.ref p = .ref a ∧ (∃ xs, SqT K H a xs) ∧ A a := ⟨p, rfl, ⟨xs, h⟩, q⟩
theorem g_forR1 {ta : TA} (q : ta σ H fun vs H1 => ∃ j : Int, vs = [.int j] ∧ -(2 ^ 62) ≤ j ∧ j < 2 ^ 62 ∧ Lp (Itr 0 j.toNat) g tb nN nR σ H1) : tFor (iRng1 ta) g tb (Ends.mk nN nR nB nC) σ H := q
theorem g_forR2 {ta : TA} (q : ta σ H fun vs H1 => ∃ i j : Int, vs = [.int i, .int j] ∧ (-(2 ^ 62) ≤ i ∧ i < 2 ^ 62 ∧ -(2 ^ 62) ≤ j ∧ j < 2 ^ 62) ∧ Lp (Itr i (j - i).toNat) g tb nN nR σ H1) : tFor (iRng2 ta) g tb (Ends.mk nN nR nB nC) σ H := q
theorem g_rg1 {A : Int → Prop} {j : Int} (h1 : -(2 ^ 62) ≤ j) (h2 : j < 2 ^ 62) (q : A j) : ∃ i : Int, [V.int j] = [V.int i] ∧ -(2 ^ 62) ≤ i ∧ i < 2 ^ 62 ∧ A i := ⟨j, rfl, h1, h2, q⟩
theorem g_rg2 {A : Int → Int → Prop} {i j : Int} (h1 : -(2 ^ 62) ≤ i) (h2 : i < 2 ^ 62) (h3 : -(2 ^ 62) ≤ j) (h4 : j < 2 ^ 62) (q : A i j) : ∃ i' j' : Int, [V.int i, V.int j] = [V.int i', V.int j'] ∧ (-(2 ^ 62) ≤ i' ∧ i' < 2 ^ 62 ∧ -(2 ^ 62) ≤ j' ∧ j' < 2 ^ 62) ∧ A i' j' := ⟨i, j, rfl, ⟨h1, h2, h3, h4⟩, q⟩
theorem lp_list (Pv : Nat → L2.St → Hp → Prop) (hF : Same F H) (h0 : Pv 0 σ F) (hl : ∀ i σ F, i ≤ xs.length → Pv i σ F → SqL K F p xs)
    (hs : ∀ i x σ F H, xs[i]? = some x → Pv i σ F → Same F H → g x σ H fun σ2 H2 => tb (Ends.mk (Up (Pv (i + 1))) nR nN (Up (Pv (i + 1)))) σ2 H2) (hd : ∀ σ F H, Pv xs.length σ F → Same F H → nN σ H) : Lp (Itl K p) g tb nN nR σ H :=
  for_list (D := Ends.mk nN nR (fun _ _ => False) (fun _ _ => False)) (xs := xs) (fun i => Up (Pv i)) ⟨F, hF, h0⟩ (fun i σ H hi ⟨F, hF, q⟩ => Same.seq hF (hl i σ F hi q)) (fun i x σ H hi ⟨F, hF, q⟩ => hs i x σ F H hi q hF) fun σ H ⟨F, hF, q⟩ => hd σ F H q hF
theorem lp_tup (Pv : Nat → L2.St → Hp → Prop) (hF : Same F H) (h0 : Pv 0 σ F) (hl : ∀ i σ F, i ≤ xs.length → Pv i σ F → SqT K F p xs)
    (hs : ∀ i x σ F H, xs[i]? = some x → Pv i σ F → Same F H → g x σ H fun σ2 H2 => tb (Ends.mk (Up (Pv (i + 1))) nR nN (Up (Pv (i + 1)))) σ2 H2) (hd : ∀ σ F H, Pv xs.length σ F → Same F H → nN σ H) : Lp (Itt K p) g tb nN nR σ H :=
  for_tup (D := Ends.mk nN nR (fun _ _ => False) (fun _ _ => False)) (xs := xs) (fun i => Up (Pv i)) ⟨F, hF, h0⟩ (fun i σ H hi ⟨F, hF, q⟩ => sSqT hF (hl i σ F hi q)) (fun i x σ H hi ⟨F, hF, q⟩ => hs i x σ F H hi q hF) fun σ H ⟨F, hF, q⟩ => hd σ F H q hF
theorem lp_range (Pv : Nat → L2.St → Hp → Prop) (hF : Same F H) (h0 : Pv 0 σ F)
    (hs : ∀ i σ F H, i < n → Pv i σ F → Same F H → g (.int (lo + i)) σ H fun σ2 H2 => tb (Ends.mk (Up (Pv (i + 1))) nR nN (Up (Pv (i + 1)))) σ2 H2) (hd : ∀ σ F H, Pv n σ F → Same F H → nN σ H) : Lp (Itr lo n) g tb nN nR σ H :=
  for_range (D := Ends.mk nN nR (fun _ _ => False) (fun _ _ => False)) (fun i => Up (Pv i)) ⟨F, hF, h0⟩ (fun i σ H hi ⟨F, hF, q⟩ => hs i σ F H hi q hF) fun σ H ⟨F, hF, q⟩ => hd σ F H q hF
theorem ne_n {H : Hp} {a b : Addr} {o : HO} (h' : Nn H b) (h : H a = some o) : a ≠ b := ne_of_none h h'
end
end Rp
namespace Rp
open PySem PySem.Spec PyProof.Rows L2
theorem eqv_ii {a b c d : Int} : PyData.eqv (.tuple [.int a, .int b]) (.tuple [.int c, .int d]) = (decide (a = c) && decide (b = d)) := by
  simp [PyData.eqv, PyData.eqvAll, Bool.beq_eq_decide_eq] <;> rfl
theorem menuI (ns : List Int) {i : Int} (h0 : 0 ≤ i) (h1 : i < ns.length) : ∃ k, k ∈ ns ∧ atI (ns.map V.int) i = some (.int k) := by
  have hl : i.toNat < ns.length := by omega
  refine ⟨ns[i.toNat], List.getElem_mem hl, atI_of h0 ?_⟩
  rw [List.getElem?_map, List.getElem?_eq_getElem hl]
  rfl
theorem menuV (xs : List V) {i : Int} (h0 : 0 ≤ i) (h1 : i < xs.length) : ∃ v, v ∈ xs ∧ atI xs i = some v := by
  have hl : i.toNat < xs.length := by omega
  exact ⟨xs[i.toNat], List.getElem_mem hl, atI_of h0 (List.getElem?_eq_getElem hl)⟩
theorem w_pos {c A B : Prop} [Decidable c] (h : c) (q : A) : if decide c = true then A else B := by rw [if_pos (decide_eq_true h)]; exact q
theorem w_neg {c A B : Prop} [Decidable c] (h : ¬ c) (q : B) : if decide c = true then A else B := by rw [if_neg (by simpa using h)]; exact q
end Rp
namespace Rp
open PySem PySem.Spec PyProof.Rows L2
theorem nn_ne {F : Hp} {p q : Addr} {o : HO} (h : Nn (upd F p o) q) : q ≠ p := by
  intro e
  subst e
  have h2 : upd F q o q = none := h
  rw [upd_same] at h2
  cases h2
theorem nn_low {F : Hp} {p q : Addr} {o : HO} (h : Nn (upd F p o) q) : Nn F q := by
  have h2 : upd F p o q = none := h
  rw [upd_ne (nn_ne h)] at h2
  exact h2
end Rp
namespace Rp
theorem w_ntt {A B : Prop} (q : B) : if (!(true && true)) = true then A else B := w_false q
end Rp
namespace Rp
open PySem PySem.Spec PyProof.Rows L2
theorem cutV_mem {xs : List V} {lo hi : Option Int} {x : V} (h : x ∈ cutV xs lo hi) : x ∈ xs := by
  unfold cutV at h
  exact List.mem_of_mem_drop (List.mem_of_mem_take h)
theorem cutV_int {ns : List Int} {lo hi : Option Int} {x : V} (h : x ∈ cutV (ns.map V.int) lo hi) : ∃ c, x = .int c := by
  obtain ⟨c, _, e⟩ := List.mem_map.mp (cutV_mem h)
  exact ⟨c, e.symm⟩
end Rp
namespace Rp
open PySem PySem.Spec PyProof.Rows L2
/-- an object that F does not know may change -/
theorem same_mut {F X : Hp} {p : Addr} {o : HO} (h : Nn F p) (e : Same F X) : Same F (upd X p o) := fun b u z => by
  have hb : b ≠ p := fun w => by
    subst w
    have h2 : F b = none := h
    rw [h2] at z
    cases z
  rw [upd_ne hb]
  exact e b u z
end Rp
namespace Rp
open PySem PySem.Spec PyProof.Rows L2
theorem g_menu {K : PySem.W.Frag} {F H : Hp} {p : Addr} {xs : List V} {i : Int} {Q : VK} (hF : Same F H) (h : F p = some (.lst xs)) (h0 : 0 ≤ i) (h1 : i < xs.length) (q : ∀ v, v ∈ xs → Q v H) : rIxL K (.ref p) (.int i) H Q := by
  obtain ⟨v, hv, e⟩ := menuV xs h0 h1
  exact g_ixL (sqL_of hF h) e (q v hv)
end Rp

namespace Rp
open PySem PySem.Spec PyProof.Rows L2
/-! comprehensions over a lower heap -/
def Lc (J : It) (g : TG) (tt : TT) (te : TE) (vs : List Nat) (R : Addr → Hp → Prop) (σ : L2.St) (H1 : Hp) : Prop := ∀ D, H1 D = none → ∃ W : Nat → Nat → Hp → Prop, (∃ m, W 0 m (upd H1 D (.lst []))) ∧ ∀ i m H, W i m H →
  (J.stop i H ∧ R D H) ∨ (J.go i H ∧ ∃ Nx : Hp → Prop, (∀ H', Nx H' → ∃ m', m' < m ∧ W (i + 1) m' H') ∧ ∀ x H', J.yld i H x H' → g x (wipe σ vs) H' fun σ2 H2 => wipe σ2 vs = wipe σ vs ∧ tt σ2 H2 fun b H3 =>
    if b = true then te σ2 H3 fun y H4 => ∃ acc, H4 D = some (.lst acc) ∧ acc.length < sizeLine ∧ Nx (upd H4 D (.lst (acc ++ [y]))) else Nx H3)
section
variable {K : PySem.W.Frag} {σ : L2.St} {H F : Hp} {tl te : TE} {tt : TT} {g : TG} {vs : List Nat} {p : Addr} {xs : List V} {lo : Int} {n m : Nat} {Q : VK} {R : Addr → Hp → Prop}
theorem g_lcL (q : tl σ H fun x H1 => ∃ a, x = .ref a ∧ (∃ xs, SqL K H1 a xs) ∧ Lc (Itl K a) g tt te vs (fun p H2 => Q (.ref p) H2) σ H1) : tLc (iList K tl) g tt te vs σ H Q := q
theorem g_lcR1 {ta : TA} (q : ta σ H fun us H1 => ∃ j : Int, us = [.int j] ∧ -(2 ^ 62) ≤ j ∧ j < 2 ^ 62 ∧ Lc (Itr 0 j.toNat) g tt te vs (fun p H2 => Q (.ref p) H2) σ H1) : tLc (iRng1 ta) g tt te vs σ H Q := q
theorem g_yes {T : Bool → Hp → Prop} (q : T true H) : tYes σ H T := q
theorem wipe1 {v : Option V} : wipe ((wipe σ [n]).set n v) [n] = wipe σ [n] := by
  show (((σ.set n none).set n v).set n none) = σ.set n none
  rw [List.set_set, List.set_set]
theorem same_at {F H : Hp} {D : Addr} {o : HO} (h : Same (upd F D o) H) : H D = some o := h D o upd_same
theorem same_reset {F H : Hp} {D : Addr} {o u : HO} (h : Same (upd F D o) H) : Same (upd F D u) (upd H D u) := fun b w e => by
  by_cases hb : b = D
  · subst hb
    rw [upd_same] at e ⊢
    exact e
  · rw [upd_ne hb] at e ⊢
    exact h b w (by rw [upd_ne hb]; exact e)
theorem lcp_list (Pv : Nat → List V → Prop) (hF : Same F H) (hs : SqL K F p xs) (hl : xs.length ≤ 1000) (h0 : Pv 0 [])
    (step : ∀ D i x acc H (Z : VK) (N : Hp → Prop), Nn F D → xs[i]? = some x → Pv i acc → acc.length ≤ i → Same (upd F D (.lst acc)) H → (∀ y H', Same (upd F D (.lst acc)) H' → Pv (i + 1) (acc ++ [y]) → Z y H') →
      (∀ H', Same (upd F D (.lst acc)) H' → Pv (i + 1) acc → N H') → tt (σ.set n (some x)) H fun b H3 => if b = true then te (σ.set n (some x)) H3 Z else N H3)
    (hd : ∀ D acc H, Nn F D → Pv xs.length acc → acc.length ≤ xs.length → Same (upd F D (.lst acc)) H → R D H) : Lc (Itl K p) (gName n) tt te [n] R σ H := by
  intro D hD
  have hn : Nn F D := sFr hF hD
  refine lc_list (K := K) (a := p) (xs := xs) (fun i H => ∃ acc, Pv i acc ∧ acc.length ≤ i ∧ Same (upd F D (.lst acc)) H) ⟨[], h0, Nat.le_refl _, sUp hF⟩ (fun i H hi ⟨acc, _, _, h⟩ => Same.seq (sLow h (same_new hn)) hs) (fun i x H hi ⟨acc, pv, la, h⟩ => ?_) (fun H ⟨acc, pv, la, h⟩ => hd D acc H hn pv la h)
  have hi' : i < xs.length := (List.getElem?_eq_some_iff.mp hi).1
  refine ⟨wipe1, ?_⟩
  have e : ((wipe σ [n]).set n (some x)) = σ.set n (some x) := by
    show ((σ.set n none).set n (some x)) = _
    rw [List.set_set]
  rw [e]
  refine step D i x acc H _ _ hn hi pv la h (fun y H4 q1 q2 => ?_) fun H3 q1 q2 => ?_
  · refine ⟨acc, same_at q1, Nat.lt_of_le_of_lt (Nat.le_trans la (Nat.le_of_lt hi')) (Nat.lt_of_le_of_lt hl (by decide)), acc ++ [y], q2, ?_, same_reset q1⟩
    rw [List.length_append]
    exact Nat.succ_le_succ la
  · exact ⟨acc, q2, Nat.le_succ_of_le la, q1⟩
theorem lcp_range (Pv : Nat → List V → Prop) (hF : Same F H) (hl : m ≤ 1000) (h0 : Pv 0 [])
    (step : ∀ D i acc H (Z : VK) (N : Hp → Prop), Nn F D → i < m → Pv i acc → acc.length ≤ i → Same (upd F D (.lst acc)) H → (∀ y H', Same (upd F D (.lst acc)) H' → Pv (i + 1) (acc ++ [y]) → Z y H') →
      (∀ H', Same (upd F D (.lst acc)) H' → Pv (i + 1) acc → N H') → tt (σ.set n (some (.int (lo + i)))) H fun b H3 => if b = true then te (σ.set n (some (.int (lo + i)))) H3 Z else N H3)
    (hd : ∀ D acc H, Nn F D → Pv m acc → acc.length ≤ m → Same (upd F D (.lst acc)) H → R D H) : Lc (Itr lo m) (gName n) tt te [n] R σ H := by
  intro D hD
  have hn : Nn F D := sFr hF hD
  refine lc_range (fun i H => ∃ acc, Pv i acc ∧ acc.length ≤ i ∧ Same (upd F D (.lst acc)) H) ⟨[], h0, Nat.le_refl _, sUp hF⟩ (fun i H hi ⟨acc, pv, la, h⟩ => ?_) (fun H ⟨acc, pv, la, h⟩ => hd D acc H hn pv la h)
  refine ⟨wipe1, ?_⟩
  have e : ((wipe σ [n]).set n (some (.int (lo + i)))) = σ.set n (some (.int (lo + i))) := by
    show ((σ.set n none).set n _) = _
    rw [List.set_set]
  rw [e]
  refine step D i acc H _ _ hn hi pv la h (fun y H4 q1 q2 => ?_) fun H3 q1 q2 => ?_
  · refine ⟨acc, same_at q1, Nat.lt_of_le_of_lt (Nat.le_trans la (Nat.le_of_lt hi)) (Nat.lt_of_le_of_lt hl (by decide)), acc ++ [y], q2, ?_, same_reset q1⟩
    rw [List.length_append]
    exact Nat.succ_le_succ la
  · exact ⟨acc, q2, Nat.le_succ_of_le la, q1⟩
end
/-! dicts whose keys are ints -/
section
variable {K : PySem.W.Frag} {σ : L2.St} {H F : Hp} {d : Addr} {kvs : List (Key × V)} {i : Int} {v z : V} {Q : VK} {td ty tx : TE}
theorem g_dnew (hF : Same F H) (q : ∀ p H', Nn F p → Same (upd F p (.dK [])) H' → Q (.ref p) H') : tDNewK σ H Q := fun p hp => q p _ (sFr hF hp) (sUp hF)
theorem g_dIn (q : ty σ H fun y H1 => td σ H1 fun x H2 => ∃ a o, x = .ref a ∧ DGet H2 a y o ∧ Q (.bl o.isSome) H2) : tDIn ty td σ H Q := q
theorem g_dNot (q : ty σ H fun y H1 => td σ H1 fun x H2 => ∃ a o, x = .ref a ∧ DGet H2 a y o ∧ Q (.bl (!o.isSome)) H2) : tDNotIn ty td σ H Q := q
theorem g_dGet (q : td σ H fun x H1 => ty σ H1 fun y H2 => ∃ a v, x = .ref a ∧ DGet H2 a y (some v) ∧ Q v H2) : tDGet td ty σ H Q := q
theorem g_din {A : Option V → Prop} (hF : Same F H) (h : F d = some (.dK kvs)) (q : A (valV kvs (Sum.inl i))) : ∃ a o, V.ref d = .ref a ∧ DGet H a (.int i) o ∧ A o := ⟨d, _, rfl, DGet.k (k := Sum.inl i) (hF _ _ h), q⟩
theorem g_dget {A : V → Prop} (hF : Same F H) (h : F d = some (.dK kvs)) (e : valV kvs (Sum.inl i) = some v) (q : A v) : ∃ a v, V.ref d = .ref a ∧ DGet H a (.int i) (some v) ∧ A v := ⟨d, v, rfl, e ▸ DGet.k (k := Sum.inl i) (hF _ _ h), q⟩
theorem g_dput {A : Hp → Prop} (hF : Same F H) (h : F d = some (.dK kvs)) (hl : kvs.length ≤ 1000) (q : ∀ H', Same (upd F d (.dK (putK kvs (Sum.inl i) v))) H' → A H') : ∃ a H4, V.ref d = .ref a ∧ DPut H a (.int i) v H4 ∧ A H4 :=
  ⟨d, _, rfl, DPut.k (k := Sum.inl i) (hF _ _ h) (Nat.lt_of_le_of_lt hl (by decide)), q _ (sUp hF)⟩
def PopO (Q : VK) (a : Addr) (y z : V) (H : Hp) : Prop := ∃ kvs k, H a = some (.dK kvs) ∧ y = kV k ∧ (∀ v, valV kvs k = some v → Q v (upd H a (.dK (dropK kvs k)))) ∧ (valV kvs k = none → Q z H)
theorem g_dpop2 (q : td σ H fun x H1 => ∃ a, x = .ref a ∧ IsD H1 a ∧ ty σ H1 fun y H2 => tx σ H2 fun z H3 => PopO Q a y z H3) : tDPop2 td ty tx σ H Q := q
theorem g_isd {A : Addr → Prop} (hF : Same F H) (h : F d = some (.dK kvs)) (q : A d) : ∃ a, V.ref d = .ref a ∧ IsD H a ∧ A a := ⟨d, rfl, .inl ⟨kvs, .inl (hF _ _ h)⟩, q⟩
theorem g_pop (hF : Same F H) (h : F d = some (.dK kvs)) (q : ∀ v H', Same (upd F d (.dK (dropK kvs (Sum.inl i)))) H' → Q v H') : PopO Q d (.int i) z H := by
  refine ⟨kvs, Sum.inl i, hF _ _ h, rfl, fun v e => q v _ (sUp hF), fun e => q z _ ?_⟩
  have e2 : dropK kvs (Sum.inl i) = kvs := dropK_no (valV_not e)
  rw [e2, upd_id h]
  exact hF
def Pop1 (Q : VK) (a : Addr) (y : V) (H : Hp) : Prop := ∃ kvs k v, H a = some (.dK kvs) ∧ y = kV k ∧ valV kvs k = some v ∧ Q v (upd H a (.dK (dropK kvs k)))
theorem g_dpop1 (q : td σ H fun x H1 => ∃ a, x = .ref a ∧ IsD H1 a ∧ ty σ H1 fun y H2 => Pop1 Q a y H2) : tDPop1 td ty σ H Q := q
theorem g_pop1 (hF : Same F H) (h : F d = some (.dK kvs)) (e : valV kvs (Sum.inl i) = some v) (q : ∀ H', Same (upd F d (.dK (dropK kvs (Sum.inl i)))) H' → Q v H') : Pop1 Q d (.int i) H := ⟨kvs, Sum.inl i, v, hF _ _ h, rfl, e, q _ (sUp hF)⟩
def rSortDI : List V → Hp → VK → Prop := fun xs H Q => ∃ (a : Addr) (kvs : List (Key × V)) (ks : List Int), xs = [.ref a] ∧ Rd H a (.dK kvs) ∧ kvs.map (·.1) = ks.map Sum.inl ∧ ks.length < 64 ∧
    ∀ (ys : List Int) (p : Addr), ys.Perm ks → ys.Pairwise (· ≤ ·) → H p = none → Q (.ref p) (upd H p (.lst (ys.map V.int)))
theorem g_sortD {ks : List Int} (hF : Same F H) (h : F d = some (.dK kvs)) (hk : kvs.map (·.1) = ks.map Sum.inl) (hs : ks.Pairwise (· ≤ ·)) (hl : ks.length < 64) (q : ∀ p H', Nn F p → Same (upd F p (.lst (ks.map V.int))) H' → Q (.ref p) H') : rSortDI [.ref d] H Q := by
  refine ⟨d, kvs, ks, rfl, .inl (hF _ _ h), hk, hl, fun ys p hp ho hn => ?_⟩
  have e := PySem.W.ksm_same hp ho hs
  subst e
  exact q p _ (sFr hF hn) (sUp hF)
end
section
variable {K : PySem.W.Frag} {σ : L2.St} {H F : Hp} {l : Addr} {xs : List V} {y : V} {Q : VK} {to : TE} {ts : TA}
/-! lists that grow; list(xs); all(..) -/
def AppO (Q : VK) (x : V) (vs : List V) (H : Hp) : Prop := rAppend x vs H Q
theorem g_bm {T : String} {r : V → List V → Hp → VK → Prop} (q : to σ H fun x H1 => tyV K T x H1 ∧ ts σ H1 fun xs H2 => r x xs H2 Q) : tBM K T r to ts σ H Q := q
theorem g_bm0 {T : String} {r : V → List V → Hp → VK → Prop} (q : to σ H fun x H1 => tyV K T x H1 ∧ r x [] H1 Q) : tBM0 K T r to σ H Q := q
theorem g_tyL {A : Prop} (hF : Same F H) (h : F l = some (.lst xs)) (q : A) : tyV K "list" (.ref l) H ∧ A := ⟨.inl ⟨rfl, xs, .inl (.inl (hF _ _ h))⟩, q⟩
theorem g_app (hF : Same F H) (h : F l = some (.lst xs)) (hl : xs.length ≤ 1000) (q : ∀ H', Same (upd F l (.lst (xs ++ [y]))) H' → Q .non H') : rAppend (.ref l) [y] H Q := ⟨l, xs, y, rfl, rfl, hF _ _ h, Nat.lt_of_le_of_lt hl (by decide), q _ (sUp hF)⟩
theorem g_listOf (hF : Same F H) (h : SqL K F l xs) (q : ∀ p H', Nn F p → Same (upd F p (.lst xs)) H' → Q (.ref p) H') : rListOf K [.ref l] H Q := ⟨l, xs, rfl, .inl (Same.seq hF h), fun p hp => q p _ (sFr hF hp) (sUp hF)⟩
theorem g_all {bs : List Bool} (hF : Same F H) (h : F l = some (.lst (bs.map V.bl))) (q : Q (.bl (bs.all id)) H) : rAll K [.ref l] H Q := ⟨l, bs, rfl, .inl (.inl (hF _ _ h)), q⟩
end
/-! data above -/
mutual
theorem dp_mono {K : PySem.W.Frag} {F H : Hp} (e : Same F H) : ∀ {v : V} {d : PyData}, Dp K F v d → Dp K H v d
  | _, _, .non => .non
  | _, _, .bl b => .bl b
  | _, _, .int i => .int i
  | _, _, .str x => .str x
  | _, _, .lst h t => .lst (Same.seq e h) (dpa_mono e t)
  | _, _, .tup h t => .tup (sSqT e h) (dpa_mono e t)
theorem dpa_mono {K : PySem.W.Frag} {F H : Hp} (e : Same F H) : ∀ {vs : List V} {ds : List PyData}, DpAll K F vs ds → DpAll K H vs ds
  | _, _, .nil => .nil
  | _, _, .cons h t => .cons (dp_mono e h) (dpa_mono e t)
end
theorem dpa_ints {K : PySem.W.Frag} {F : Hp} : ∀ (ns : List Int), DpAll K F (ns.map V.int) (ns.map PyData.int)
  | [] => .nil
  | n :: r => .cons (.int n) (dpa_ints r)
theorem upd_comm {F : Hp} {p q : Addr} {o u : HO} (h : p ≠ q) : upd (upd F p o) q u = upd (upd F q u) p o := by
  funext b
  by_cases e1 : b = p
  · subst e1
    rw [upd_ne h, upd_same, upd_same]
  · by_cases e2 : b = q
    · subst e2
      rw [upd_same, upd_ne e1, upd_same]
    · rw [upd_ne e2, upd_ne e1, upd_ne e1, upd_ne e2]
end Rp
namespace Rp
open PySem PySem.Spec PyProof.Rows L2
theorem g_sdput {td ty tv : TE} {σ : L2.St} {H : Hp} {nN nB nC : L2.St → Hp → Prop} {nR : VK} (q : tv σ H fun v H1 => td σ H1 fun x H2 => ty σ H2 fun y H3 => ∃ a H4, x = .ref a ∧ DPut H3 a y v H4 ∧ nN σ H4) : sDPut td ty tv (Ends.mk nN nR nB nC) σ H := q
end Rp
namespace Rp
open PySem PySem.Spec PyProof.Rows L2
theorem lay_ints : ∀ (ns : List Int), PyData.canLayAll0 (ns.map PyData.int) = true
  | [] => rfl
  | n :: r => by
    rw [List.map_cons, PyData.canLayAll0, lay_ints r]
    rfl
theorem depth_ints : ∀ (ns : List Int), PyData.depthAll (ns.map PyData.int) = 0
  | [] => rfl
  | n :: r => by
    rw [List.map_cons, PyData.depthAll, depth_ints r]
    rfl
theorem shaped_ints (ns : List Int) : SeqAt.shaped (.list (ns.map PyData.int)) = true := by
  unfold SeqAt.shaped
  rw [PyData.canLay0, lay_ints, PyData.depth, depth_ints]
  rfl
end Rp
namespace Rp
open PySem PySem.Spec PyProof.Rows L2
theorem sh_lay {d : PyData} (s : SeqAt.shaped d = true) : d.canLay0 = true := by
  unfold SeqAt.shaped at s
  exact (Bool.and_eq_true_iff.mp s).1
theorem eqv_self {d : PyData} (s : SeqAt.shaped d = true) : PyData.eqv d d = true := SeqAt.eqv_refl d (sh_lay s)
theorem g_eqSame {K : PySem.W.Frag} {H : Hp} {x y : V} {Q : VK} {d : PyData} (h1 : Dp K H x d) (h2 : Dp K H y d) (s1 : SeqAt.shaped d = true) (q : Q (.bl true) H) : rEqD K x y H Q := g_eqD h1 h2 s1 s1 (by rw [eqv_self s1]; exact q)
theorem g_neSame {K : PySem.W.Frag} {H : Hp} {x y : V} {Q : VK} {d : PyData} (h1 : Dp K H x d) (h2 : Dp K H y d) (s1 : SeqAt.shaped d = true) (q : Q (.bl false) H) : rNeD K x y H Q := g_neD h1 h2 s1 s1 (by rw [eqv_self s1]; exact q)
end Rp

namespace Rq
open PySem PySem.Spec PyProof.Rows L2 Rp
/-! the text by places -/
def top (i : Nat) : Stmt := PySem.Challenge.pw_ringpost_k04_what_is_there.main.body.getD i (.Pass ⟨0, 0, 0, 0⟩)
abbrev s_is_whole : Stmt := (top 12)
abbrev s_Post_init : Stmt := (inClass (top 14) 0)
abbrev s_Post_posted : Stmt := (inClass (top 14) 1)
abbrev s_Post_there : Stmt := (inClass (top 14) 2)
abbrev s_Post_taken : Stmt := (inClass (top 14) 3)
abbrev s_l_at : Stmt := (top 16)
abbrev s_l_mixed : Stmt := (top 17)
abbrev s_l_whole : Stmt := (top 18)
abbrev s_l_word : Stmt := (top 19)
abbrev s_l_said : Stmt := (top 20)
abbrev s_l_thing : Stmt := (top 21)
abbrev s_l_due : Stmt := (top 22)
abbrev s_l_there : Stmt := (top 23)
abbrev s_l_stands : Stmt := (top 24)
abbrev s_law : Stmt := (top 25)
abbrev N_is_whole : List Str := ["thing"]
theorem sc_is_whole : FnScope N_is_whole ["thing"] (defScope s_is_whole) := ⟨rfl, rfl, rfl, by decide +kernel, rfl, by decide +kernel, by decide +kernel⟩
abbrev N_Post_init : List Str := ["self", "bound"]
theorem sc_Post_init : FnScope N_Post_init ["self", "bound"] (defScope s_Post_init) := ⟨rfl, rfl, rfl, by decide +kernel, rfl, by decide +kernel, by decide +kernel⟩
abbrev N_Post_posted : List Str := ["self", "thing", "number"]
theorem sc_Post_posted : FnScope N_Post_posted ["self", "thing"] (defScope s_Post_posted) := ⟨rfl, rfl, rfl, by decide +kernel, rfl, by decide +kernel, by decide +kernel⟩
abbrev N_Post_there : List Str := ["self"]
theorem sc_Post_there : FnScope N_Post_there ["self"] (defScope s_Post_there) := ⟨rfl, rfl, rfl, by decide +kernel, rfl, by decide +kernel, by decide +kernel⟩
abbrev N_Post_taken : List Str := ["self", "number"]
theorem sc_Post_taken : FnScope N_Post_taken ["self", "number"] (defScope s_Post_taken) := ⟨rfl, rfl, rfl, by decide +kernel, rfl, by decide +kernel, by decide +kernel⟩
abbrev N_l_at : List Str := ["_law_script", "_law_k"]
theorem sc_l_at : FnScope N_l_at ["_law_script", "_law_k"] (defScope s_l_at) := ⟨rfl, rfl, rfl, by decide +kernel, rfl, by decide +kernel, by decide +kernel⟩
abbrev N_l_mixed : List Str := ["_law_cell", "_law_k"]
theorem sc_l_mixed : FnScope N_l_mixed ["_law_cell", "_law_k"] (defScope s_l_mixed) := ⟨rfl, rfl, rfl, by decide +kernel, rfl, by decide +kernel, by decide +kernel⟩
abbrev N_l_whole : List Str := ["_law_thing_here"]
theorem sc_l_whole : FnScope N_l_whole ["_law_thing_here"] (defScope s_l_whole) := ⟨rfl, rfl, rfl, by decide +kernel, rfl, by decide +kernel, by decide +kernel⟩
abbrev N_l_word : List Str := ["_law_error", "_law_word_here", "_law_is_other"]
theorem sc_l_word : FnScope N_l_word ["_law_error"] (defScope s_l_word) := ⟨rfl, rfl, rfl, by decide +kernel, rfl, by decide +kernel, by decide +kernel⟩
abbrev N_l_said : List Str := ["_law_post", "_law_number", "_law_error"]
theorem sc_l_said : FnScope N_l_said ["_law_post", "_law_number"] (defScope s_l_said) := ⟨rfl, rfl, rfl, by decide +kernel, rfl, by decide +kernel, by decide +kernel⟩
abbrev N_l_thing : List Str := ["_law_cell"]
theorem sc_l_thing : FnScope N_l_thing ["_law_cell"] (defScope s_l_thing) := ⟨rfl, rfl, rfl, by decide +kernel, rfl, by decide +kernel, by decide +kernel⟩
abbrev N_l_due : List Str := ["_law_bound", "_law_things", "_law_number"]
theorem sc_l_due : FnScope N_l_due ["_law_bound", "_law_things"] (defScope s_l_due) := ⟨rfl, rfl, rfl, by decide +kernel, rfl, by decide +kernel, by decide +kernel⟩
abbrev N_l_there : List Str := ["_law_post", "_law_bound", "_law_things", "_law_olds", "_law_found", "_law_number"]
theorem sc_l_there : FnScope N_l_there ["_law_post", "_law_bound", "_law_things", "_law_olds"] (defScope s_l_there) := ⟨rfl, rfl, rfl, by decide +kernel, rfl, by decide +kernel, by decide +kernel⟩
abbrev N_l_stands : List Str := ["_law_post", "_law_bound", "_law_things", "_law_olds", "_law_way", "_law_number"]
theorem sc_l_stands : FnScope N_l_stands ["_law_post", "_law_bound", "_law_things", "_law_olds", "_law_way"] (defScope s_l_stands) := ⟨rfl, rfl, rfl, by decide +kernel, rfl, by decide +kernel, by decide +kernel⟩
abbrev N_law : List Str := ["_law_script", "_law_k", "_law_bounds", "_law_posts", "_law_rows", "_law_olds", "_law_cell", "_law_which", "_law_found", "_law_bound", "_law_number", "_law_due_here", "_law_odd", "_law_old"]
theorem sc_law : FnScope N_law ["_law_script"] (defScope s_law) := ⟨rfl, rfl, rfl, by decide +kernel, rfl, by decide +kernel, by decide +kernel⟩
/-- where the defs and classes stand -/
structure Ad where
  ePostError : Addr
  eBadBounds : Addr
  eBadRing : Addr
  eBadTexts : Addr
  eBadStep : Addr
  eNotNow : Addr
  eNoLetter : Addr
  eSafe : Addr
  eNoLine : Addr
  cPost : Addr
  f_is_whole : Addr
  f_Post_init : Addr
  f_Post_posted : Addr
  f_Post_there : Addr
  f_Post_taken : Addr
  f_l_at : Addr
  f_l_mixed : Addr
  f_l_whole : Addr
  f_l_word : Addr
  f_l_said : Addr
  f_l_thing : Addr
  f_l_due : Addr
  f_l_there : Addr
  f_l_stands : Addr
  f_law : Addr
inductive Er where
  | NoLetter
def erA (a : Ad) : Er → Addr
  | .NoLetter => a.eNoLetter
def isPostError : Er → Bool
  | .NoLetter => true
def isBadBounds : Er → Bool
  | .NoLetter => false
def isBadRing : Er → Bool
  | .NoLetter => false
def isBadTexts : Er → Bool
  | .NoLetter => false
def isBadStep : Er → Bool
  | .NoLetter => false
def isNotNow : Er → Bool
  | .NoLetter => false
def isNoLetter : Er → Bool
  | .NoLetter => true
def isSafe : Er → Bool
  | .NoLetter => false
def isNoLine : Er → Bool
  | .NoLetter => false
def flPost (v0 v1 v2 : V) : List (Str × V) := [(("_bound" : Str), v0), (("_many" : Str), v1), (("_things" : Str), v2)]
theorem flPost_g_bound {v0 v1 v2 : V} : (flPost v0 v1 v2).lookup ("_bound" : Str) = some v0 := by
  unfold flPost
  exact Rp.lk_hit
theorem flPost_p_bound {v0 v1 v2 y : V} : putF ("_bound" : Str) y (flPost v0 v1 v2) = flPost y v1 v2 := by
  unfold flPost
  rw [Rp.pt_hit]
theorem flPost_g_many {v0 v1 v2 : V} : (flPost v0 v1 v2).lookup ("_many" : Str) = some v1 := by
  unfold flPost
  rw [Rp.lk_miss (by decide +kernel)]
  exact Rp.lk_hit
theorem flPost_p_many {v0 v1 v2 y : V} : putF ("_many" : Str) y (flPost v0 v1 v2) = flPost v0 y v2 := by
  unfold flPost
  rw [Rp.pt_miss (by decide +kernel)]
  rw [Rp.pt_hit]
theorem flPost_g_things {v0 v1 v2 : V} : (flPost v0 v1 v2).lookup ("_things" : Str) = some v2 := by
  unfold flPost
  rw [Rp.lk_miss (by decide +kernel)]
  rw [Rp.lk_miss (by decide +kernel)]
  exact Rp.lk_hit
theorem flPost_p_things {v0 v1 v2 y : V} : putF ("_things" : Str) y (flPost v0 v1 v2) = flPost v0 v1 y := by
  unfold flPost
  rw [Rp.pt_miss (by decide +kernel)]
  rw [Rp.pt_miss (by decide +kernel)]
  rw [Rp.pt_hit]
theorem flPost_nposted {v0 v1 v2 : V} : (flPost v0 v1 v2).lookup ("posted" : Str) = none := by
  unfold flPost
  rw [Rp.lk_miss (by decide +kernel)]
  rw [Rp.lk_miss (by decide +kernel)]
  rw [Rp.lk_miss (by decide +kernel)]
  rfl
theorem flPost_nthere {v0 v1 v2 : V} : (flPost v0 v1 v2).lookup ("there" : Str) = none := by
  unfold flPost
  rw [Rp.lk_miss (by decide +kernel)]
  rw [Rp.lk_miss (by decide +kernel)]
  rw [Rp.lk_miss (by decide +kernel)]
  rfl
theorem flPost_ntaken {v0 v1 v2 : V} : (flPost v0 v1 v2).lookup ("taken" : Str) = none := by
  unfold flPost
  rw [Rp.lk_miss (by decide +kernel)]
  rw [Rp.lk_miss (by decide +kernel)]
  rw [Rp.lk_miss (by decide +kernel)]
  rfl
theorem flPost_mk0 {v0 : V} : putF ("_bound" : Str) v0 [] = [(("_bound" : Str), v0)] := by rw [Rp.pt_nil]
theorem flPost_mk1 {v0 v1 : V} : putF ("_many" : Str) v1 [(("_bound" : Str), v0)] = [(("_bound" : Str), v0), (("_many" : Str), v1)] := by rw [Rp.pt_miss (by decide +kernel), Rp.pt_nil]
theorem flPost_mk2 {v0 v1 v2 : V} : putF ("_things" : Str) v2 [(("_bound" : Str), v0), (("_many" : Str), v1)] = [(("_bound" : Str), v0), (("_many" : Str), v1), (("_things" : Str), v2)] := by rw [Rp.pt_miss (by decide +kernel), Rp.pt_miss (by decide +kernel), Rp.pt_nil]
theorem flPost_mk {v0 v1 v2 : V} : putF ("_things" : Str) v2 (putF ("_many" : Str) v1 (putF ("_bound" : Str) v0 ([]))) = flPost v0 v1 v2 := by
  rw [flPost_mk0, flPost_mk1, flPost_mk2]
  rfl
structure Txt (K : PySem.W.Frag) (mg : Str → Option Value) (a : Ad) : Prop where
  n_ValueError : mg "ValueError" = none
  n_all : mg "all" = none
  n_bool : mg "bool" = none
  n_int : mg "int" = none
  n_isinstance : mg "isinstance" = none
  n_len : mg "len" = none
  n_list : mg "list" = none
  n_range : mg "range" = none
  n_sorted : mg "sorted" = none
  n_type : mg "type" = none
  g_Post : mg "Post" = some (.ref a.cPost)
  c_Post : Cls K a.cPost
  mk_Post : Mk K a.cPost a.f_Post_init
  na_Post_bound : NoAttr K a.cPost "_bound"
  na_Post_many : NoAttr K a.cPost "_many"
  na_Post_things : NoAttr K a.cPost "_things"
  mt_Post_posted : Meth K a.cPost "posted" a.f_Post_posted
  mt_Post_there : Meth K a.cPost "there" a.f_Post_there
  mt_Post_taken : Meth K a.cPost "taken" a.f_Post_taken
  g_PostError : mg "PostError" = some (.ref a.ePostError)
  g_BadBounds : mg "BadBounds" = some (.ref a.eBadBounds)
  g_BadRing : mg "BadRing" = some (.ref a.eBadRing)
  g_BadTexts : mg "BadTexts" = some (.ref a.eBadTexts)
  g_BadStep : mg "BadStep" = some (.ref a.eBadStep)
  g_NotNow : mg "NotNow" = some (.ref a.eNotNow)
  g_NoLetter : mg "NoLetter" = some (.ref a.eNoLetter)
  g_Safe : mg "Safe" = some (.ref a.eSafe)
  g_NoLine : mg "NoLine" = some (.ref a.eNoLine)
  x_NoLetter : PySem.W.excIn K a.eNoLetter [.type "ValueError", .type "Exception", .type "BaseException", .type "object"] "ValueError.__new__" = true
  k_NoLetter : PySem.W.keepIn K (.ref a.eNoLetter) = true
  b_NoLetter : PySem.W.subIn K (.ref a.eNoLetter) (.type "BaseException") = some true
  t_NoLetter : PySem.W.typeIn K (.ref a.eNoLetter) = some (.type "type")
  ec : ∀ er, ExcC K (erA a er)
  is_PostError : ∀ er, PySem.W.kitOne K (.ref (erA a er)) (.ref a.ePostError) = some (isPostError er)
  is_BadBounds : ∀ er, PySem.W.kitOne K (.ref (erA a er)) (.ref a.eBadBounds) = some (isBadBounds er)
  is_BadRing : ∀ er, PySem.W.kitOne K (.ref (erA a er)) (.ref a.eBadRing) = some (isBadRing er)
  is_BadTexts : ∀ er, PySem.W.kitOne K (.ref (erA a er)) (.ref a.eBadTexts) = some (isBadTexts er)
  is_BadStep : ∀ er, PySem.W.kitOne K (.ref (erA a er)) (.ref a.eBadStep) = some (isBadStep er)
  is_NotNow : ∀ er, PySem.W.kitOne K (.ref (erA a er)) (.ref a.eNotNow) = some (isNotNow er)
  is_NoLetter : ∀ er, PySem.W.kitOne K (.ref (erA a er)) (.ref a.eNoLetter) = some (isNoLetter er)
  is_Safe : ∀ er, PySem.W.kitOne K (.ref (erA a er)) (.ref a.eSafe) = some (isSafe er)
  is_NoLine : ∀ er, PySem.W.kitOne K (.ref (erA a er)) (.ref a.eNoLine) = some (isNoLine er)
  is_ValueError : ∀ er, PySem.W.kitOne K (.ref (erA a er)) (.type "ValueError") = some true
  ex_PostError : ∀ er, PySem.W.exmOne K (.ref (erA a er)) (.ref a.ePostError) = some (isPostError er)
  g_is_whole : mg "is_whole" = some (.ref a.f_is_whole)
  k_is_whole : PySem.W.keepIn K (.ref a.f_is_whole) = true
  g_l_at : mg "_law_at" = some (.ref a.f_l_at)
  k_l_at : PySem.W.keepIn K (.ref a.f_l_at) = true
  g_l_mixed : mg "_law_mixed" = some (.ref a.f_l_mixed)
  k_l_mixed : PySem.W.keepIn K (.ref a.f_l_mixed) = true
  g_l_whole : mg "_law_whole" = some (.ref a.f_l_whole)
  k_l_whole : PySem.W.keepIn K (.ref a.f_l_whole) = true
  g_l_word : mg "_law_word" = some (.ref a.f_l_word)
  k_l_word : PySem.W.keepIn K (.ref a.f_l_word) = true
  g_l_said : mg "_law_said" = some (.ref a.f_l_said)
  k_l_said : PySem.W.keepIn K (.ref a.f_l_said) = true
  g_l_thing : mg "_law_thing" = some (.ref a.f_l_thing)
  k_l_thing : PySem.W.keepIn K (.ref a.f_l_thing) = true
  g_l_due : mg "_law_due" = some (.ref a.f_l_due)
  k_l_due : PySem.W.keepIn K (.ref a.f_l_due) = true
  g_l_there : mg "_law_there" = some (.ref a.f_l_there)
  k_l_there : PySem.W.keepIn K (.ref a.f_l_there) = true
  g_l_stands : mg "_law_stands" = some (.ref a.f_l_stands)
  k_l_stands : PySem.W.keepIn K (.ref a.f_l_stands) = true

def sp_is_whole (K : PySem.W.Frag) (a : Ad) : Sp := Rp.spG fun vs F k _ => ∃ x, vs = [x] ∧ Rp.Kd F x ∧ k (.bl (Rp.isInt x)) F
/-! what a post is -/
def lo (b n : Nat) : Nat := n - (b + 1)
def rng (b n : Nat) : List Nat := List.range' (lo b n) (n - lo b n)
def win (b : Nat) (xs : List V) : List (Key × V) := (rng b xs.length).map fun i => (Sum.inl ((i : Nat) : Int), xs.getD i .non)
def due (b n : Nat) : List Int := (rng b n).map fun i => ((i : Nat) : Int)
def gotI (b : Nat) (xs : List V) (i : Int) : Option V := if (lo b xs.length : Int) ≤ i ∧ i < (xs.length : Int) then some (xs.getD i.toNat .non) else none
def got (b : Nat) (xs : List V) : V → Option V
  | .int i => gotI b xs i
  | _ => none
abbrev pst (a : Ad) (dx d : Addr) (b : Nat) (n : Nat) : HO := .ins a.cPost dx (flPost (.int (b : Nat)) (.int (n : Nat)) (.ref d))
structure PostAt (a : Ad) (F : Hp) (p dx d : Addr) (b : Nat) (xs : List V) : Prop where
  hp : F p = some (pst a dx d b xs.length)
  hd : F d = some (.dK (win b xs))
def sp_Post_init (K : PySem.W.Frag) (a : Ad) : Sp := Rp.spG fun vs F k _ => ∃ p b dx, vs = [.ref p, .int ((b : Nat) : Int)] ∧ F p = some (.ins a.cPost dx []) ∧ ∀ d, Rp.Nn F d → k .non (upd (upd F d (.dK [])) p (pst a dx d b 0))
def sp_Post_posted (K : PySem.W.Frag) (a : Ad) : Sp := Rp.spG fun vs F k _ => ∃ p v dx d b xs, vs = [.ref p, v] ∧ PostAt a F p dx d b xs ∧ xs.length ≤ 900 ∧ k (.int (xs.length : Nat)) (upd (upd F d (.dK (win b (xs ++ [v])))) p (pst a dx d b (xs.length + 1)))
def sp_Post_there (K : PySem.W.Frag) (a : Ad) : Sp := Rp.spG fun vs F k _ => ∃ p dx d b xs, vs = [.ref p] ∧ PostAt a F p dx d b xs ∧ b ≤ 50 ∧ ∀ q, Rp.Nn F q → k (.ref q) (upd F q (.lst ((due b xs.length).map V.int)))
def sp_Post_taken (K : PySem.W.Frag) (a : Ad) : Sp := Rp.spG fun vs F k e => ∃ p x dx d b xs, vs = [.ref p, x] ∧ PostAt a F p dx d b xs ∧ Rp.Kd F x ∧ (∀ v, got b xs x = some v → k v F) ∧ (got b xs x = none → e (.ref a.eNoLetter) none F)
def sp_l_at (K : PySem.W.Frag) (a : Ad) : Sp := Rp.spG fun vs F k _ => ∃ p i ns, vs = [.ref p, .int i] ∧ SqL K F p (ns.map V.int) ∧ 0 ≤ i ∧ k (.int (Rp.cell ns i)) F
def sp_l_mixed (K : PySem.W.Frag) (a : Ad) : Sp := Rp.spG fun vs F k _ => ∃ c i, vs = [.int c, .int i] ∧ 0 ≤ i ∧ i ≤ 100 ∧ k (.int (Rp.mixed c i)) F
def sp_l_whole (K : PySem.W.Frag) (a : Ad) : Sp := Rp.spG fun vs F k _ => ∃ x, vs = [x] ∧ Rp.Kd F x ∧ k (.bl (Rp.isInt x)) F
def sp_law (K : PySem.W.Frag) (a : Ad) : Sp := Rp.spLaw K
def sp_l_word (K : PySem.W.Frag) (a : Ad) (er : Er) (eA : Addr) : Sp := Rp.spG fun vs F k _ => ∃ z : Unit, vs = [.ref eA] ∧ k (.str "letter") F
def sp_l_said (K : PySem.W.Frag) (a : Ad) : Sp := Rp.spG fun vs F k _ => ∃ p x dx d b xs, vs = [.ref p, x] ∧ PostAt a F p dx d b xs ∧ Rp.Kd F x ∧ (∀ v, got b xs x = some v → ∀ q, Rp.Nn F q → k (.ref q) (upd F q (.tup [.str "told", v]))) ∧
  (got b xs x = none → ∀ q, Rp.Nn F q → k (.ref q) (upd F q (.tup [.str "refused", .str "letter"])))
/-- a thing's data: a text, an int, a pair of such -/
inductive Fl : V → PyData → Prop where
  | int (i : Int) : Fl (.int i) (.int i)
  | str (x : Str) (h : PyData.strOk x = true) : Fl (.str x) (.str x)
inductive Th (F : Hp) : V → PyData → Prop where
  | fl {v : V} {d : PyData} (h : Fl v d) : Th F v d
  | tup {t : Addr} {x y : V} {dx dy : PyData} (h : F t = some (.tup [x, y])) (hx : Fl x dx) (hy : Fl y dy) : Th F (.ref t) (.tuple [dx, dy])
def thing (c : Int) : PyData := ([PyData.str "a", .str "b", .int 5, .tuple [.int 1, .str "a"], .tuple [.int 2, .str "b"], .str "", .int 0, .tuple [.str "a", .int 1]] : List PyData).getD (c % 8).toNat .none
def sp_l_thing (K : PySem.W.Frag) (a : Ad) : Sp := Rp.spG fun vs F k _ => ∃ c, vs = [.int c] ∧ ∀ v F', Same F F' → Th F' v (thing c) → k v F'
def sp_l_due (K : PySem.W.Frag) (a : Ad) : Sp := Rp.spG fun vs F k _ => ∃ (b : Nat) (r : Addr) (ys : List V), vs = [.int (b : Nat), .ref r] ∧ F r = some (.lst ys) ∧ ys.length ≤ 900 ∧ ∀ q, Rp.Nn F q → k (.ref q) (upd F q (.lst ((due b ys.length).map V.int)))
/-- a list that was told, and what it was: new since F -/
def OldN (F F' : Hp) (o : V) : Prop := ∃ t f c m b, o = .ref t ∧ Rp.Nn F t ∧ Rp.Nn F f ∧ Rp.Nn F c ∧ F' t = some (.tup [.ref f, .ref c]) ∧ F' f = some (.lst ((due b m).map V.int ++ [.str "more"])) ∧ F' c = some (.lst ((due b m).map V.int ++ [.str "more"]))
structure Grow (F F' : Hp) (l : Addr) (os os' : List V) : Prop where
  kp : ∀ x o, F x = some o → x ≠ l → F' x = some o
  at_ : F' l = some (.lst os')
  few : os'.length ≤ os.length + 1
  nw : ∀ o ∈ os', o ∈ os ∨ OldN F F' o
inductive ThAll (F : Hp) : List V → List PyData → Prop where
  | nil : ThAll F [] []
  | cons {v : V} {d : PyData} {vs : List V} {ds : List PyData} (h : Th F v d) (t : ThAll F vs ds) : ThAll F (v :: vs) (d :: ds)
def sp_l_there (K : PySem.W.Frag) (a : Ad) : Sp := Rp.spG fun vs F k _ => ∃ p dx d r l b xs ys os, vs = [.ref p, .int ((b : Nat) : Int), .ref r, .ref l] ∧ PostAt a F p dx d b xs ∧ b ≤ 50 ∧ F r = some (.lst ys) ∧ ys.length = xs.length ∧ xs.length ≤ 900 ∧ F l = some (.lst os) ∧ os.length ≤ 900 ∧
  ∀ F' os', Grow F F' l os os' → k (.bl true) F'
def sp_l_stands (K : PySem.W.Frag) (a : Ad) : Sp := Rp.spG fun vs F k _ => ∃ p dx d r l b w xs ys os ds, vs = [.ref p, .int ((b : Nat) : Int), .ref r, .ref l, .int w] ∧ PostAt a F p dx d b xs ∧ b ≤ 50 ∧ F r = some (.lst ys) ∧ ThAll F xs ds ∧ ThAll F ys ds ∧ xs.length ≤ 900 ∧ F l = some (.lst os) ∧ os.length ≤ 900 ∧ l ≠ r ∧
  ∀ F' os', Grow F F' l os os' → k (.bl true) F'

def t_is_whole (K : PySem.W.Frag) (a : Ad) : TS := tRet (tOp Rp.rIT (tCB (rTyp K) (tCons (tVar 0) (tNil))) (tC (.ty "int")))
def t_Post_init (K : PySem.W.Frag) (a : Ad) : TS := tSeq (sFld K (tVar 0) (tVar 1) "_bound") (tSeq (sFld K (tVar 0) (tC (.int 0)) "_many") (sFld K (tVar 0) (tDNewK) "_things"))
def t_Post_posted (K : PySem.W.Frag) (a : Ad) : TS := tSeq (tAsg (tFld K (tVar 0) "_many") (gName 2)) (tSeq (sDPut (tFld K (tVar 0) "_things") (tVar 2) (tVar 1)) (tSeq (sFld K (tVar 0) (tOp (rI0 fun i j => .int (i + j)) (tVar 2) (tC (.int 1))) "_many") (tSeq (tDrop (tDPop2 (tFld K (tVar 0) "_things") (tOp (rI0 fun i j => .int (i - j)) (tOp (rI0 fun i j => .int (i - j)) (tVar 2) (tFld K (tVar 0) "_bound")) (tC (.int 1))) (tC .non))) (tRet (tVar 2)))))
def t_Post_there (K : PySem.W.Frag) (a : Ad) : TS := tRet (tCB Rp.rSortDI (tCons (tFld K (tVar 0) "_things") (tNil)))
def t_Post_taken (K : PySem.W.Frag) (a : Ad) (E : XK) : TS := tSeq (tIfS (tOr (tNot (tB (tCall (sp_is_whole K a) [] E0 (tCons (tVar 1) (tNil))))) (tB (tDNotIn (tVar 1) (tFld K (tVar 0) "_things")))) (Rp.tRaiseC a.eNoLetter E) (tNext)) (tRet (tDGet (tFld K (tVar 0) "_things") (tVar 1)))
def t_l_at (K : PySem.W.Frag) (a : Ad) : TS := tSeq (tIfS (tTest (tOp (rI0 fun i j => .bl (decide (i < j))) (tVar 1) (tCB (Rp.rLen K) (tCons (tVar 0) (tNil))))) (tRet (tOp (rIxL K) (tVar 0) (tVar 1))) (tNext)) (tRet (tC (.int 0)))
def t_l_mixed (K : PySem.W.Frag) (a : Ad) : TS := tRet (tOp (rI (fun _ j => 0 < j) fun i j => .int (i % j)) (tOp (rI0 fun i j => .int (i + j)) (tOp (rI CMul fun i j => .int (i * j)) (tVar 0) (tC (.int 48271))) (tOp (rI CMul fun i j => .int (i * j)) (tOp (rI CMul fun i j => .int (i * j)) (tC (.int 7919)) (tOp (rI0 fun i j => .int (i + j)) (tVar 1) (tC (.int 1)))) (tOp (rI0 fun i j => .int (i + j)) (tVar 1) (tC (.int 3))))) (tC (.int 2147483647)))
def t_l_whole (K : PySem.W.Frag) (a : Ad) : TS := tRet (tAndV (tCB (rIsi K) (tCons (tVar 0) (tCons (tC (.ty "int")) tNil))) (tNotV (tCB (rIsi K) (tCons (tVar 0) (tCons (tC (.ty "bool")) tNil)))))
def b1_l_word (K : PySem.W.Frag) (a : Ad) (er : Er) (eA : Addr) : TS := tAsg (tOp Rp.rCatS (tVar 1) (tOp Rp.rStrRep (tC (.str "x")) (tCB Rp.rInt1 (tCons (tVar 2) (tNil))))) (gName 1)
def b2_l_word (K : PySem.W.Frag) (a : Ad) (er : Er) (eA : Addr) : TS := tAsg (tOp Rp.rCatS (tVar 1) (tOp Rp.rStrRep (tC (.str "x")) (tCB Rp.rInt1 (tCons (tVar 2) (tNil))))) (gName 1)
def t_l_word (K : PySem.W.Frag) (a : Ad) (er : Er) (eA : Addr) : TS := tSeq (tAsg (tOp Rp.rStrRep (tC (.str "letter")) (tCB Rp.rInt1 (tCons (tCB (rIsE K (erA a er) eA) (tCons (tVar 0) (tCons (tC (.ref a.eNoLetter)) tNil))) (tNil)))) (gName 1)) (tSeq (tFor (iList K (tLst (tCons (tCB (rIsE K (erA a er) eA) (tCons (tVar 0) (tCons (tC (.ref a.eBadBounds)) tNil))) (tCons (tCB (rIsE K (erA a er) eA) (tCons (tVar 0) (tCons (tC (.ref a.eBadRing)) tNil))) (tCons (tCB (rIsE K (erA a er) eA) (tCons (tVar 0) (tCons (tC (.ref a.eBadTexts)) tNil))) (tNil)))))) (gName 2) (b1_l_word K a er eA)) (tSeq (tFor (iList K (tLst (tCons (tCB (rIsE K (erA a er) eA) (tCons (tVar 0) (tCons (tC (.ref a.eBadStep)) tNil))) (tCons (tCB (rIsE K (erA a er) eA) (tCons (tVar 0) (tCons (tC (.ref a.eNotNow)) tNil))) (tCons (tCB (rIsE K (erA a er) eA) (tCons (tVar 0) (tCons (tC (.ref a.eSafe)) tNil))) (tNil)))))) (gName 2) (b2_l_word K a er eA)) (tRet (tOp Rp.rStrRep (tOp Rp.rCatS (tVar 1) (tOp Rp.rStrRep (tC (.str "x")) (tCB Rp.rInt1 (tCons (tCB (rIsE K (erA a er) eA) (tCons (tVar 0) (tCons (tC (.ref a.eNoLine)) tNil))) (tNil))))) (tCB Rp.rInt1 (tCons (tCB (rIsE K (erA a er) eA) (tCons (tVar 0) (tCons (tC (.ty "ValueError")) tNil))) (tNil)))))))
def b1_l_said (K : PySem.W.Frag) (a : Ad) (W : WX) : TS := tRet (tTup (tCons (tC (.str "told")) (tCons (Rp.tMethS a.cPost "taken" (sp_Post_taken K a) (WE W) (tVar 0) (tCons (tVar 1) (tNil))) (tNil))))
def b2_l_said (K : PySem.W.Frag) (a : Ad) (eA : Addr) (eC : Value) (eD0 : Option Addr) : TS := fun D σ H => ∃ er : Er, (eC = Value.ref (erA a er) ∧ eD0 = none) ∧ (tRet (tTup (tCons (tC (.str "refused")) (tCons (tCall (sp_l_word K a er eA) [] E0 (tCons (tVar 2) (tNil))) (tNil))))) D σ H
def t_l_said (K : PySem.W.Frag) (a : Ad) : TS := (fun D σ H => b1_l_said K a (wAs K (.ref a.ePostError) 2 (b2_l_said K a) (fun _ _ _ _ => False) D) D σ H)
def t_l_thing (K : PySem.W.Frag) (a : Ad) : TS := tRet (tOp (rIxL K) (tLst (tCons (tC (.str "a")) (tCons (tC (.str "b")) (tCons (tC (.int 5)) (tCons (tTup (tCons (tC (.int 1)) (tCons (tC (.str "a")) (tNil)))) (tCons (tTup (tCons (tC (.int 2)) (tCons (tC (.str "b")) (tNil)))) (tCons (tC (.str "")) (tCons (tC (.int 0)) (tCons (tTup (tCons (tC (.str "a")) (tCons (tC (.int 1)) (tNil)))) (tNil)))))))))) (tOp (rI (fun _ j => 0 < j) fun i j => .int (i % j)) (tVar 0) (tC (.int 8))))
def t_l_due (K : PySem.W.Frag) (a : Ad) : TS := tRet (tLc (iRng1 (tCons (tCB (Rp.rLen K) (tCons (tVar 1) (tNil))) (tNil))) (gName 2) (tTest (tOp (rI0 fun i j => .bl (decide (j ≤ i))) (tOp (rI0 fun i j => .int (i + j)) (tVar 2) (tVar 0)) (tOp (rI0 fun i j => .int (i - j)) (tCB (Rp.rLen K) (tCons (tVar 1) (tNil))) (tC (.int 1))))) (tVar 2) [2])
def i1_l_there (K : PySem.W.Frag) (a : Ad) : TS := tIfS (tOr (tNot (tB (tCB (rIsi K) (tCons (tVar 4) (tCons (tC (.ty "list")) tNil))))) (tTest (tOp (rNeD K) (tVar 4) (tCall (sp_l_due K a) [] E0 (tCons (tVar 1) (tCons (tVar 2) (tNil))))))) (tRet (tC (.bl false))) (tNext)
def i2_l_there (K : PySem.W.Frag) (a : Ad) : TS := tIfS (tNot (tB (tCB (rAll K) (tCons (tLc (iList K (tVar 4)) (gName 5) (tYes) (tCall (sp_l_whole K a) [] E0 (tCons (tVar 5) (tNil))) [5]) (tNil))))) (tRet (tC (.bl false))) (tNext)
def t_l_there (K : PySem.W.Frag) (a : Ad) : TS := tSeq (tAsg (tMeth a.cPost "there" (sp_Post_there K a) [] E0 (tVar 0) (tNil)) (gName 4)) (tSeq (i1_l_there K a) (tSeq (i2_l_there K a) (tSeq (tDrop (tBM K "list" rAppend (tVar 4) (tCons (tC (.str "more")) (tNil)))) (tSeq (tDrop (tBM K "list" rAppend (tVar 3) (tCons (tTup (tCons (tVar 4) (tCons (tCB (Rp.rListOf K) (tCons (tVar 4) (tNil))) (tNil)))) (tNil)))) (tRet (tC (.bl true)))))))
def i1_l_stands (K : PySem.W.Frag) (a : Ad) : TS := tIfS (tAnd (tTest (tOp rEq (tVar 4) (tC (.int 0)))) (tNot (tB (tCall (sp_l_there K a) [] E0 (tCons (tVar 0) (tCons (tVar 1) (tCons (tVar 2) (tCons (tVar 3) (tNil))))))))) (tRet (tC (.bl false))) (tNext)
def i2_l_stands (K : PySem.W.Frag) (a : Ad) : TS := tIfS (tTest (tOp (rNeD K) (tCall (sp_l_said K a) [] E0 (tCons (tVar 0) (tCons (tVar 5) (tNil)))) (tTup (tCons (tC (.str "told")) (tCons (tOp (rIxL K) (tVar 2) (tVar 5)) (tNil)))))) (tRet (tC (.bl false))) (tNext)
def b1_l_stands (K : PySem.W.Frag) (a : Ad) : TS := i2_l_stands K a
def i3_l_stands (K : PySem.W.Frag) (a : Ad) : TS := tIfS (tTest (tOp (rNeD K) (tCall (sp_l_said K a) [] E0 (tCons (tVar 0) (tCons (tCB (Rp.rLen K) (tCons (tVar 2) (tNil))) (tNil)))) (tTup (tCons (tC (.str "refused")) (tCons (tC (.str "letter")) (tNil)))))) (tRet (tC (.bl false))) (tNext)
def t_l_stands (K : PySem.W.Frag) (a : Ad) : TS := tSeq (tIfS (tTest (tOp rEq (tVar 4) (tC (.int 2)))) (tRet (tC (.bl true))) (tNext)) (tSeq (i1_l_stands K a) (tSeq (tFor (iList K (tCall (sp_l_due K a) [] E0 (tCons (tVar 1) (tCons (tVar 2) (tNil))))) (gName 5) (b1_l_stands K a)) (tSeq (i3_l_stands K a) (tRet (tOrV (tOp rEq (tVar 4) (tC (.int 0))) (tCall (sp_l_there K a) [] E0 (tCons (tVar 0) (tCons (tVar 1) (tCons (tVar 2) (tCons (tVar 3) (tNil)))))))))))
def i1_law (K : PySem.W.Frag) (a : Ad) : TS := tIfS (tOr (tNot (tB (tCall (sp_l_whole K a) [] E0 (tCons (tVar 8) (tNil))))) (tTest (tOp rNe (tVar 8) (tCB (Rp.rLen K) (tCons (tOp (rIxL K) (tVar 4) (tVar 7)) (tNil)))))) (tRet (tC (.bl false))) (tNext)
def i2_law (K : PySem.W.Frag) (a : Ad) : TS := tIfS (tTest (tOp (rIn K false) (tVar 10) (tCall (sp_l_due K a) [] E0 (tCons (tVar 9) (tCons (tOp (rIxL K) (tVar 4) (tVar 7)) (tNil)))))) (tAsg (tTup (tCons (tC (.str "told")) (tCons (tOp (rIxL K) (tOp (rIxL K) (tVar 4) (tVar 7)) (tVar 10)) (tNil)))) (gName 11)) (tNext)
def i3_law (K : PySem.W.Frag) (a : Ad) : TS := tIfS (tTest (tOp (rNeD K) (tCall (sp_l_said K a) [] E0 (tCons (tOp (rIxL K) (tVar 3) (tVar 7)) (tCons (tVar 10) (tNil)))) (tVar 11))) (tRet (tC (.bl false))) (tNext)
def i4_law (K : PySem.W.Frag) (a : Ad) : TS := tIfS (tTest (tOp rEq (tOp (rI (fun _ j => 0 < j) fun i j => .int (i % j)) (tVar 6) (tC (.int 2))) (tC (.int 0)))) (tSeq (tAsg (tMeth a.cPost "posted" (sp_Post_posted K a) [] E0 (tOp (rIxL K) (tVar 3) (tVar 7)) (tCons (tCall (sp_l_thing K a) [] E0 (tCons (tOp (rI CDiv fun i j => .int (i / j)) (tVar 6) (tC (.int 4))) (tNil))) (tNil))) (gName 8)) (tSeq (i1_law K a) (tDrop (tBM K "list" rAppend (tOp (rIxL K) (tVar 4) (tVar 7)) (tCons (tCall (sp_l_thing K a) [] E0 (tCons (tOp (rI CDiv fun i j => .int (i / j)) (tVar 6) (tC (.int 4))) (tNil))) (tNil)))))) (tSeq (tAsg (tOp (rIxL K) (tVar 2) (tVar 7)) (gName 9)) (tSeq (tAsg (tOp (rI0 fun i j => .int (i + j)) (tOp (rI0 fun i j => .int (i - j)) (tOp (rI0 fun i j => .int (i - j)) (tCB (Rp.rLen K) (tCons (tOp (rIxL K) (tVar 4) (tVar 7)) (tNil))) (tC (.int 2))) (tVar 9)) (tOp (rI (fun _ j => 0 < j) fun i j => .int (i % j)) (tOp (rI CDiv fun i j => .int (i / j)) (tVar 6) (tC (.int 4))) (tOp (rI0 fun i j => .int (i + j)) (tVar 9) (tC (.int 4))))) (gName 10)) (tSeq (tAsg (tTup (tCons (tC (.str "refused")) (tCons (tC (.str "letter")) (tNil)))) (gName 11)) (tSeq (i2_law K a) (i3_law K a)))))
def i5_law (K : PySem.W.Frag) (a : Ad) : TS := tIfS (tNot (tB (tCall (sp_l_stands K a) [] E0 (tCons (tOp (rIxL K) (tVar 3) (tVar 1)) (tCons (tOp (rIxL K) (tVar 2) (tVar 1)) (tCons (tOp (rIxL K) (tVar 4) (tVar 1)) (tCons (tVar 5) (tCons (tOp (rI (fun _ j => 0 < j) fun i j => .int (i % j)) (tOp (rI CDiv fun i j => .int (i / j)) (tVar 6) (tC (.int 84))) (tC (.int 3))) (tNil))))))))) (tRet (tC (.bl false))) (tNext)
def b1_law (K : PySem.W.Frag) (a : Ad) : TS := i5_law K a
def b2_law (K : PySem.W.Frag) (a : Ad) : TS := tSeq (tAsg (tOp (rI (fun _ j => 0 < j) fun i j => .int (i % j)) (tOp (rI CDiv fun i j => .int (i / j)) (tVar 6) (tC (.int 2))) (tC (.int 2))) (gName 7)) (tSeq (i4_law K a) (tFor (iRng1 (tCons (tC (.int 2)) (tNil))) (gName 1) (b1_law K a)))
def i6_law (K : PySem.W.Frag) (a : Ad) : TS := tIfS (tTest (tOp (rNeD K) (tCall (sp_l_said K a) [] E0 (tCons (tOp (rIxL K) (tVar 3) (tC (.int 0))) (tCons (tVar 12) (tNil)))) (tTup (tCons (tC (.str "refused")) (tCons (tC (.str "letter")) (tNil)))))) (tRet (tC (.bl false))) (tNext)
def t_law (K : PySem.W.Frag) (a : Ad) : TS := tSeq (tAsg (tLc (iRng1 (tCons (tC (.int 2)) (tNil))) (gName 1) (tYes) (tOp (rI (fun _ j => 0 < j) fun i j => .int (i % j)) (tCall (sp_l_mixed K a) [] E0 (tCons (tCall (sp_l_at K a) [] E0 (tCons (tVar 0) (tCons (tVar 1) (tNil)))) (tCons (tVar 1) (tNil)))) (tOp (rIxL K) (tLst (tCons (tC (.int 4)) (tCons (tC (.int 21)) (tNil)))) (tOp (rI (fun _ j => 0 < j) fun i j => .int (i % j)) (tOp (rI CDiv fun i j => .int (i / j)) (tCall (sp_l_at K a) [] E0 (tCons (tVar 0) (tCons (tVar 1) (tNil)))) (tC (.int 64))) (tC (.int 2))))) [1]) (gName 2)) (tSeq (tAsg (tLst (tCons (tMake a.cPost (sp_Post_init K a) [] E0 (tCons (tOp (rIxL K) (tVar 2) (tC (.int 0))) (tNil))) (tCons (tMake a.cPost (sp_Post_init K a) [] E0 (tCons (tOp (rIxL K) (tVar 2) (tC (.int 1))) (tNil))) (tNil)))) (gName 3)) (tSeq (tAsg (tLst (tCons (tLst (tNil)) (tCons (tLst (tNil)) (tNil)))) (gName 4)) (tSeq (tAsg (tLst (tNil)) (gName 5)) (tSeq (tFor (iList K (tSl (rSlL K) (tVar 0) (tPart (tC (.int 2))) (tPart (tC (.int 42))))) (gName 6) (b2_law K a)) (tSeq (tAsg (tOp (rIxL K) (tLst (tCons (tC .non) (tCons (tC (.bl true)) (tCons (tC (.bl false)) (tCons (tC (.str "0")) (tCons (tLst (tCons (tC (.int 0)) (tNil))) (tCons (tTup (tCons (tC (.int 0)) (tNil))) (tCons (tUn (rU fun i => .int (-i)) (tC (.int 1))) (tNil))))))))) (tOp (rI (fun _ j => 0 < j) fun i j => .int (i % j)) (tOp (rI CDiv fun i j => .int (i / j)) (tCall (sp_l_at K a) [] E0 (tCons (tVar 0) (tCons (tC (.int 1)) (tNil)))) (tC (.int 3))) (tC (.int 7)))) (gName 12)) (tSeq (i6_law K a) (tRet (tOp (rEqD K) (tLc (iList K (tVar 5)) (gName 13) (tTest (tOp (rNeD K) (tOp (rIxT K) (tVar 13) (tC (.int 0))) (tOp (rIxT K) (tVar 13) (tC (.int 1))))) (tVar 13) [13]) (tLst (tNil))))))))))
set_option hygiene false
local macro_rules | `(tactic| walk_at "fact") => `(tactic| (with_reducible first | exact T.c_Post | exact T.na_Post_bound | exact flPost_g_bound | exact flPost_p_bound | exact flPost_mk0 | exact T.na_Post_many | exact flPost_g_many | exact flPost_p_many | exact flPost_mk1 | exact T.na_Post_things | exact flPost_g_things | exact flPost_p_things | exact flPost_mk2 | exact flPost_nposted | exact flPost_nthere | exact flPost_ntaken | exact rfl | assumption))
local macro_rules | `(tactic| walk_at "ne") => `(tactic| first | (with_reducible assumption) | (apply Ne.symm; (with_reducible assumption)) | ((with_reducible refine' ne_n ?m1 ?m2); (case m1 => (with_reducible assumption)); (case m2 => walk_at "at")) | (apply Ne.symm; (with_reducible refine' ne_n ?m1 ?m2); (case m1 => (with_reducible assumption)); (case m2 => walk_at "at")) | fail)
local macro_rules | `(tactic| walk_at "at") => `(tactic| first | assumption | exact upd_same | ((with_reducible refine' Eq.trans (upd_ne ?nn) ?_); (case nn => walk_at "ne"); walk_at "at"))
local macro_rules | `(tactic| walk_at "sq") => `(tactic| first | assumption | exact Same.seq (by assumption) (by assumption) | exact sSqT (by assumption) (by assumption) | (refine' sqL_of ?z1 ?z2; (case z1 => assumption); (case z2 => walk_at "at")) | (refine' sqT_of ?z1 ?z2; (case z1 => assumption); (case z2 => walk_at "at")))
local macro_rules | `(tactic| walk_at "side") => `(tactic| first | omega | ((with_reducible show CMul _ _); first | exact Or.inl (by omega) | exact Or.inr (by omega)) | ((with_reducible show CDiv _ _); constructor <;> omega) | ((with_reducible show CPow _ _); refine ⟨?_, ?_, ?_⟩ <;> first | omega | decide) | (show (0 : Int) < _; omega) | decide)
local macro_rules | `(tactic| walk_at "dps") => `(tactic| first | exact DpAll.nil | (refine' DpAll.cons ?y1 ?y2; (case y1 => walk_at "dp"); (case y2 => walk_at "dps")))
local macro_rules | `(tactic| walk_at "dp") => `(tactic| first | exact Dp.int _ | exact Dp.str _ | exact Dp.non | exact Dp.bl _ | (refine' Dp.tup ?x1 ?x2; (case x1 => walk_at "sq"); (case x2 => walk_at "dps")) | (refine' Dp.lst ?x1 ?x2; (case x1 => walk_at "sq"); (case x2 => walk_at "dps")))
local macro_rules | `(tactic| walk_at "grow") => `(tactic| first | assumption | exact Same.refl _ | ((with_reducible refine' Same.trans ?gg (same_new ?nn)); (case nn => assumption); (case gg => walk_at "grow")))
local macro_rules | `(tactic| walk_at "shp") => `(tactic| first | rfl | (simp [SeqAt.shaped, PyData.canLay0, PyData.canLayAll0, PyData.depth, PyData.depthAll] <;> (repeat' apply And.intro) <;> decide +kernel))
local macro_rules | `(tactic| walk_at "rd1") => `(tactic| first
  | ((with_reducible refine' g_var ?hh ?_); (case hh => first | exact rfl | assumption))
  | with_reducible refine g_c ?_
  | with_reducible refine g_op ?_
  | with_reducible refine g_I0 ?_
  | ((with_reducible refine' g_I ?hh ?_); (case hh => walk_at "side"))
  | with_reducible refine g_U ?_
  | with_reducible refine g_un ?_
  | with_reducible refine g_tt ?_
  | with_reducible refine g_tB ?_
  | with_reducible refine g_bl ?_
  | with_reducible refine g_blA ?_
  | with_reducible refine g_eqI ?_
  | with_reducible refine g_neI ?_
  | with_reducible refine g_eqB ?_
  | with_reducible refine g_eqS ?_
  | with_reducible refine g_neS ?_
  | with_reducible refine g_isN ?_
  | with_reducible refine g_notN ?_
  | with_reducible refine g_isB ?_
  | with_reducible refine g_notB ?_
  | with_reducible refine g_isT ?_
  | with_reducible refine g_cons ?_
  | with_reducible refine g_nil ?_
  | with_reducible refine g_call ?_
  | with_reducible refine g_callS ?_
  | with_reducible refine g_cB ?_
  | with_reducible refine g_fld ?_
  | ((with_reducible refine' g_get (by assumption) ?h1 ?c1 ?n1 ?l1 ?_); (case h1 => walk_at "at"); (case c1 => walk_at "fact"); (case n1 => walk_at "fact"); (case l1 => walk_at "fact"))
  | with_reducible refine g_meth ?_
  | with_reducible refine g_methS ?_
  | ((with_reducible refine' g_rcv (by assumption) ?h1 ?l1 ?_); (case h1 => walk_at "at"); (case l1 => walk_at "fact"))
  | with_reducible refine g_sfld ?_
  | ((with_reducible refine' g_put (by assumption) ?h1 ?c1 ?n1 ?l2 ?l1 ?_); (case h1 => walk_at "at"); (case c1 => walk_at "fact"); (case n1 => walk_at "fact"); (case l2 => exact Nat.le_of_ble_eq_true rfl); (case l1 => walk_at "fact"); (try clear hF); intro H hF; (try rw [upd_upd] at hF))
  | with_reducible refine g_and ?_
  | with_reducible refine g_or ?_
  | with_reducible refine g_not ?_
  | with_reducible refine g_andV ?_
  | with_reducible refine g_orV ?_
  | with_reducible refine g_notV ?_
  | with_reducible refine g_if ?_
  | with_reducible refine g_chn ?_
  | with_reducible refine g_cc ?_
  | with_reducible refine g_cl ?_
  | with_reducible refine w_true ?_
  | with_reducible refine w_false ?_
  | with_reducible refine w_nt ?_
  | with_reducible refine w_nf ?_
  | with_reducible refine w_ntt ?_
  | with_reducible refine g_set ?_
  | with_reducible refine g_set1 ?_
  | with_reducible refine g_seq ?_
  | with_reducible refine g_ret ?_
  | with_reducible refine g_ifS ?_
  | with_reducible refine g_drop ?_
  | with_reducible refine g_asg ?_
  | with_reducible refine g_next ?_
  | with_reducible refine g_cont ?_
  | with_reducible refine g_brk ?_
  | with_reducible refine g_retN ?_
  | with_reducible refine g_int1 ?_
  | with_reducible refine g_int1b ?_
  | with_reducible refine g_max2 ?_
  | with_reducible refine g_min2 ?_
  | with_reducible refine g_tup ?_
  | with_reducible refine g_lst ?_
  | ((with_reducible refine' g_newO (by assumption) ?hh ?_); (case hh => exact Nat.le_of_ble_eq_true rfl); (try clear hF); intro p1 H hF1 hF)
  | with_reducible refine g_lcL ?_
  | with_reducible refine g_lcR1 ?_
  | with_reducible refine g_yes ?_
  | with_reducible refine g_dIn ?_
  | with_reducible refine g_dNot ?_
  | with_reducible refine g_dGet ?_
  | with_reducible refine g_dpop2 ?_
  | with_reducible refine g_dpop1 ?_
  | with_reducible refine g_bm ?_
  | with_reducible refine g_bm0 ?_
  | ((with_reducible refine' g_dnew (by assumption) ?_); (try clear hF); intro p1 H hF1 hF)
  | with_reducible refine g_sdput ?_
  | ((with_reducible refine' g_din (by assumption) ?h1 ?_); (case h1 => walk_at "at"))
  | ((with_reducible refine' g_isd (by assumption) ?h1 ?_); (case h1 => walk_at "at"))
  | ((with_reducible refine' g_tyL (by assumption) ?h1 ?_); (case h1 => walk_at "at"))
  | with_reducible refine g_make ?_
  | with_reducible refine g_sl ?_
  | with_reducible refine g_noP ?_
  | with_reducible refine g_part ?_
  | with_reducible refine g_exI ?_
  | ((with_reducible refine' g_len ?hh ?_); (case hh => walk_at "sq"))
  | ((with_reducible refine' g_lenT ?hh ?_); (case hh => walk_at "sq"))
  | with_reducible refine g_forL ?_
  | with_reducible refine g_forT ?_
  | with_reducible refine g_forR1 ?_
  | with_reducible refine g_forR2 ?_
  | with_reducible refine g_name ?_
  | ((with_reducible refine' g_itL ?hh ?_); (case hh => walk_at "sq"))
  | ((with_reducible refine' g_itT ?hh ?_); (case hh => walk_at "sq")))
local macro_rules | `(tactic| walk_at "rd") => `(tactic| repeat walk_at "rd1")

theorem cl_is_whole {K : PySem.W.Frag} {a : Ad} {F H : Hp} {x : V} {Q : VK} {E : XK} (hF : Same F H) (hx : Rp.Kd F x) (q : ∀ H', Same F H' → Q (.bl (Rp.isInt x)) H') : sp_is_whole K a [x] H Q E := ⟨F, hF, x, rfl, hx, q⟩
theorem rd_is_whole {K : PySem.W.Frag} {mg : Str → Option Value} {a : Ad} (T : Txt K mg a) {vs : List V} {H : Hp} {Q : VK} {E : XK} (h : sp_is_whole K a vs H Q E) : t_is_whole K a { nx := fun _ H' => Q .non H', rt := Q } (start N_is_whole vs) H := by
  obtain ⟨F, hF, x, rfl, hx, k⟩ := h
  unfold t_is_whole
  walk_at "rd"
  exact hx.typ hF (k _ hF)
/-! a post's numbers -/
theorem rng_zero (b : Nat) : rng b 0 = [] := by
  unfold rng lo
  rw [Nat.zero_sub, Nat.sub_self]
  rfl
theorem rng_succ (b n : Nat) : rng b (n + 1) = if n < b + 1 then rng b n ++ [n] else (rng b n).tail ++ [n] := by
  unfold rng lo
  by_cases h : n < b + 1
  · rw [if_pos h, show n + 1 - (b + 1) = 0 by omega, show n - (b + 1) = 0 by omega, Nat.sub_zero, Nat.sub_zero, List.range'_concat]
    simp
  · rw [if_neg h]
    obtain ⟨m, rfl⟩ : ∃ m, n = m + (b + 1) := ⟨n - (b + 1), by omega⟩
    rw [show m + (b + 1) + 1 - (b + 1) = m + 1 by omega, show m + (b + 1) - (b + 1) = m by omega, show m + (b + 1) + 1 - (m + 1) = b + 1 by omega, show m + (b + 1) - m = b + 1 by omega]
    rw [List.range'_concat, List.range'_succ, List.tail_cons, show m + 1 + 1 * b = m + (b + 1) by omega]
theorem mem_rng {b n i : Nat} : i ∈ rng b n ↔ lo b n ≤ i ∧ i < n := by
  unfold rng
  rw [List.mem_range'_1]
  unfold lo
  omega
theorem val_map (f : Nat → V) (k : Int) : ∀ (l : List Nat), valV (l.map fun i => ((Sum.inl ((i : Nat) : Int) : Key), f i)) (Sum.inl k) = if 0 ≤ k ∧ k.toNat ∈ l then some (f k.toNat) else none
  | [] => by simp [valV]
  | j :: r => by
    rw [List.map_cons]
    by_cases e : ((j : Nat) : Int) = k
    · have e2 : k.toNat = j := by omega
      rw [valV_pos (by rw [e]), if_pos ⟨by omega, by rw [e2]; exact List.mem_cons_self⟩, e2]
    · rw [valV_neg (by intro z; exact e (Sum.inl.inj z)), val_map f k r]
      by_cases h : 0 ≤ k ∧ k.toNat ∈ r
      · rw [if_pos h, if_pos ⟨h.1, List.mem_cons_of_mem _ h.2⟩]
      · rw [if_neg h, if_neg]
        rintro ⟨h1, h2⟩
        rcases List.mem_cons.mp h2 with z | z
        · omega
        · exact h ⟨h1, z⟩
theorem val_win {b : Nat} {xs : List V} {i : Int} : valV (win b xs) (Sum.inl i) = gotI b xs i := by
  unfold win gotI
  rw [val_map (fun i => xs.getD i .non)]
  by_cases h : (lo b xs.length : Int) ≤ i ∧ i < (xs.length : Int)
  · rw [if_pos h, if_pos ⟨by omega, mem_rng.mpr (by omega)⟩]
  · rw [if_neg h, if_neg]
    rintro ⟨h1, h2⟩
    have := mem_rng.mp h2
    omega
theorem win_len (b : Nat) (xs : List V) : (win b xs).length ≤ b + 1 := by
  unfold win rng
  rw [List.length_map, List.length_range']
  unfold lo
  omega
theorem win_len2 (b : Nat) (xs : List V) : (win b xs).length ≤ xs.length := by
  unfold win rng
  rw [List.length_map, List.length_range']
  omega
theorem due_len (b n : Nat) : (due b n).length ≤ b + 1 := by
  unfold due rng
  rw [List.length_map, List.length_range']
  unfold lo
  omega
theorem due_len2 (b n : Nat) : (due b n).length ≤ n := by
  unfold due rng
  rw [List.length_map, List.length_range']
  omega
theorem win_keys (b : Nat) (xs : List V) : (win b xs).map (·.1) = (due b xs.length).map Sum.inl := by
  unfold win due
  rw [List.map_map, List.map_map]
  rfl
theorem due_up (b n : Nat) : (due b n).Pairwise (· ≤ ·) := by
  unfold due
  rw [List.pairwise_map]
  refine List.Pairwise.imp (R := (· < ·)) (fun {x y} h => by omega) ?_
  unfold rng
  exact List.pairwise_lt_range'
theorem map_drop (f : Nat → V) (k : Int) (l : List Nat) : dropK (l.map fun i => ((Sum.inl ((i : Nat) : Int) : Key), f i)) (Sum.inl k) = (l.filter fun i => decide (((i : Nat) : Int) ≠ k)).map fun i => ((Sum.inl ((i : Nat) : Int) : Key), f i) := by
  unfold dropK
  rw [List.filter_map]
  congr 1
  refine List.filter_congr fun i _ => ?_
  show decide ((Sum.inl ((i : Nat) : Int) : Key) ≠ Sum.inl k) = decide (((i : Nat) : Int) ≠ k)
  simp
theorem win_post (b : Nat) (xs : List V) (v : V) : dropK (putK (win b xs) (Sum.inl ((xs.length : Nat) : Int)) v) (Sum.inl ((xs.length : Int) - (b : Int) - 1)) = win b (xs ++ [v]) := by
  have e1 : putK (win b xs) (Sum.inl ((xs.length : Nat) : Int)) v = (rng b xs.length ++ [xs.length]).map fun i => ((Sum.inl ((i : Nat) : Int) : Key), (xs ++ [v]).getD i .non) := by
    rw [putK_new v (by rw [val_win]; unfold gotI; rw [if_neg (by omega)]), List.map_append]
    congr 1
    · unfold win
      refine List.map_congr_left fun i hi => ?_
      have := mem_rng.mp hi
      rw [List.getD_eq_getElem?_getD, List.getD_eq_getElem?_getD, List.getElem?_append_left (by omega)]
    · show [((Sum.inl ((xs.length : Nat) : Int) : Key), v)] = [((Sum.inl ((xs.length : Nat) : Int) : Key), (xs ++ [v]).getD xs.length .non)]
      rw [List.getD_eq_getElem?_getD, List.getElem?_append_right (Nat.le_refl _), Nat.sub_self]
      rfl
  rw [e1, map_drop]
  unfold win
  rw [List.length_append, List.length_singleton, rng_succ]
  congr 1
  by_cases h : xs.length < b + 1
  · rw [if_pos h]
    refine List.filter_eq_self.mpr fun i hi => ?_
    exact decide_eq_true (by omega)
  · rw [if_neg h]
    obtain ⟨m, hm⟩ : ∃ m, xs.length = m + (b + 1) := ⟨xs.length - (b + 1), by omega⟩
    rw [hm]
    have e2 : rng b (m + (b + 1)) = m :: List.range' (m + 1) b := by
      unfold rng lo
      rw [show m + (b + 1) - (b + 1) = m by omega, show m + (b + 1) - m = b + 1 by omega, List.range'_succ]
    rw [e2, List.tail_cons, List.cons_append, List.filter_cons, if_neg (by simp; omega)]
    refine List.filter_eq_self.mpr fun i hi => ?_
    refine decide_eq_true ?_
    rcases List.mem_append.mp hi with z | z
    · rw [List.mem_range'_1] at z
      omega
    · simp at z
      omega
theorem win_nil (b : Nat) : win b [] = [] := by
  unfold win
  rw [show ([] : List V).length = 0 from rfl, rng_zero]
  rfl
theorem rd_Post_init {K : PySem.W.Frag} {mg : Str → Option Value} {a : Ad} (T : Txt K mg a) {vs : List V} {H : Hp} {Q : VK} {E : XK} (h : sp_Post_init K a vs H Q E) : t_Post_init K a { nx := fun _ H' => Q .non H', rt := Q } (start N_Post_init vs) H := by
  obtain ⟨F, hF, p, b, dx, rfl, hp, k⟩ := h
  unfold t_Post_init
  walk_at "rd"
  have n1 := nn_ne hF1
  rw [upd_comm n1.symm, upd_upd] at hF
  exact k _ (nn_low hF1) _ hF
theorem rd_Post_posted {K : PySem.W.Frag} {mg : Str → Option Value} {a : Ad} (T : Txt K mg a) {vs : List V} {H : Hp} {Q : VK} {E : XK} (h : sp_Post_posted K a vs H Q E) : t_Post_posted K a { nx := fun _ H' => Q .non H', rt := Q } (start N_Post_posted vs) H := by
  obtain ⟨F, hF, p, v, dx, d, b, xs, rfl, P, hl, k⟩ := h
  have hp := P.hp
  have hd := P.hd
  have npd : p ≠ d := ne_of hp hd (by intro z; cases z)
  unfold t_Post_posted
  walk_at "rd"
  refine g_dput hF hd (Nat.le_trans (win_len2 b xs) (by omega)) fun H hF => ?_
  walk_at "rd"
  refine g_pop hF (by walk_at "at") fun v H hF => ?_
  rw [win_post, upd_comm npd, upd_upd] at hF
  walk_at "rd"
  exact k _ hF
theorem rd_Post_there {K : PySem.W.Frag} {mg : Str → Option Value} {a : Ad} (T : Txt K mg a) {vs : List V} {H : Hp} {Q : VK} {E : XK} (h : sp_Post_there K a vs H Q E) : t_Post_there K a { nx := fun _ H' => Q .non H', rt := Q } (start N_Post_there vs) H := by
  obtain ⟨F, hF, p, dx, d, b, xs, rfl, P, hb, k⟩ := h
  have hp := P.hp
  have hd := P.hd
  unfold t_Post_there
  walk_at "rd"
  refine g_sortD hF hd (win_keys b xs) (due_up b _) (Nat.lt_of_le_of_lt (due_len b _) (by omega)) fun q H hq hF => ?_
  exact k q hq _ hF
theorem rd_Post_taken {K : PySem.W.Frag} {mg : Str → Option Value} {a : Ad} (T : Txt K mg a) {vs : List V} {H : Hp} {Q : VK} {E : XK} (h : sp_Post_taken K a vs H Q E) : t_Post_taken K a E { nx := fun _ H' => Q .non H', rt := Q } (start N_Post_taken vs) H := by
  obtain ⟨F, hF, p, x, dx, d, b, xs, rfl, P, hx, k1, k2⟩ := h
  have hp := P.hp
  have hd := P.hd
  unfold t_Post_taken
  walk_at "rd"
  refine cl_is_whole hF hx fun H hF => ?_
  walk_at "rd"
  cases x with
  | int i =>
    rw [isInt_int]
    walk_at "rd"
    rw [val_win]
    cases hg : gotI b xs i with
    | none =>
      walk_at "rd"
      exact k2 hg _ hF
    | some v =>
      rw [Option.isSome_some]
      walk_at "rd"
      refine g_dget hF hd (val_win.trans hg) ?_
      exact k1 v hg _ hF
  | _ =>
    rw [show Rp.isInt _ = false from rfl]
    walk_at "rd"
    exact k2 rfl _ hF
theorem rd_l_at {K : PySem.W.Frag} {mg : Str → Option Value} {a : Ad} (T : Txt K mg a) {vs : List V} {H : Hp} {Q : VK} {E : XK} (h : sp_l_at K a vs H Q E) : t_l_at K a { nx := fun _ H' => Q .non H', rt := Q } (start N_l_at vs) H := by
  obtain ⟨F, hF, p, i, ns, rfl, hp, h0, k⟩ := h
  unfold t_l_at
  walk_at "rd"
  refine w_dec (fun h1 => ?_) (fun h1 => ?_)
  · walk_at "rd"
    refine g_ixL (Same.seq hF hp) (cell_in h0 h1) ?_
    walk_at "rd"
    exact k _ hF
  · walk_at "rd"
    rw [cell_off h0 h1] at k
    exact k _ hF
theorem rd_l_mixed {K : PySem.W.Frag} {mg : Str → Option Value} {a : Ad} (T : Txt K mg a) {vs : List V} {H : Hp} {Q : VK} {E : XK} (h : sp_l_mixed K a vs H Q E) : t_l_mixed K a { nx := fun _ H' => Q .non H', rt := Q } (start N_l_mixed vs) H := by
  obtain ⟨F, hF, c, i, rfl, h0, h1, k⟩ := h
  unfold t_l_mixed
  walk_at "rd"
  exact k _ hF
theorem rd_l_whole {K : PySem.W.Frag} {mg : Str → Option Value} {a : Ad} (T : Txt K mg a) {vs : List V} {H : Hp} {Q : VK} {E : XK} (h : sp_l_whole K a vs H Q E) : t_l_whole K a { nx := fun _ H' => Q .non H', rt := Q } (start N_l_whole vs) H := by
  obtain ⟨F, hF, x, rfl, hx, k⟩ := h
  unfold t_l_whole
  walk_at "rd"
  refine hx.isi hF ?_
  walk_at "rd"
  refine w_bool (fun h1 => ?_) (fun h1 => ?_)
  · walk_at "rd"
    refine hx.isb hF ?_
    walk_at "rd"
    cases x <;> first | exact k _ hF | cases h1
  · walk_at "rd"
    cases x <;> first | exact k _ hF | cases h1
theorem hot_loop {K : PySem.W.Frag} {eA p : Addr} {F H : Hp} {xs : List V} {w : Str} {o : Option V} {nN : L2.St → Hp → Prop} {nR : VK} {b : TS} (hb : b = tAsg (tOp Rp.rCatS (tVar 1) (tOp Rp.rStrRep (tC (.str "x")) (tCB Rp.rInt1 (tCons (tVar 2) (tNil))))) (gName 1))
    (hw : w ++ Str.empty = w) (hl : w.length ≤ 100) (hF : Same F H) (hp : F p = some (.lst xs)) (hx : ∀ x ∈ xs, x = .bl false) (hd : ∀ o H, Same F H → nN [some (.ref eA), some (.str w), o] H) : Rp.Lp (Itl K p) (gName 2) b nN nR [some (.ref eA), some (.str w), o] H := by
  subst hb
  refine Rp.lp_list (xs := xs) (fun i σ F' => F' = F ∧ ∃ o, σ = [some (.ref eA), some (.str w), o]) hF ⟨rfl, o, rfl⟩ ?_ ?_ ?_
  · rintro i σ F hi ⟨rfl, -⟩
    exact .inl (.inl hp)
  · rintro i x σ F H hi ⟨rfl, o, rfl⟩ hF
    have e := hx x (List.mem_of_getElem? hi)
    subst e
    walk_at "rd"
    refine g_rep (by decide) (by decide) (by decide) ?_
    refine g_catS (Nat.le_trans (Nat.add_le_add hl (Nat.zero_le _ : 0 ≤ 0)) (by decide)) ?_
    walk_at "rd"
    refine ⟨_, hF, rfl, some (.bl false), ?_⟩
    show [some (V.ref eA), some (V.str (w ++ Str.empty)), some (V.bl false)] = _
    rw [hw]
  · rintro σ F H ⟨rfl, o, rfl⟩ hF
    exact hd o H hF
theorem rd_l_word {K : PySem.W.Frag} {mg : Str → Option Value} {a : Ad} (T : Txt K mg a) {er : Er} {eA : Addr} {vs : List V} {H : Hp} {Q : VK} {E : XK} (h : sp_l_word K a er eA vs H Q E) : t_l_word K a er eA { nx := fun _ H' => Q .non H', rt := Q } (start N_l_word vs) H := by
  obtain ⟨F, hF, _, rfl, k⟩ := h
  cases er
  unfold t_l_word
  walk_at "rd"
  refine isE_of (T.is_NoLetter .NoLetter) ?_
  walk_at "rd"
  refine g_rep (by decide) (by decide) (by decide +kernel) ?_
  walk_at "rd"
  refine isE_of (T.is_BadBounds .NoLetter) ?_
  walk_at "rd"
  refine isE_of (T.is_BadRing .NoLetter) ?_
  walk_at "rd"
  refine isE_of (T.is_BadTexts .NoLetter) ?_
  walk_at "rd"
  refine hot_loop (w := "letter") (eA := eA) (o := none) rfl (by decide +kernel) (by decide +kernel) hF upd_same ?_ fun o H hF => ?_
  · intro x hx
    simp only [List.mem_cons, List.not_mem_nil, or_false] at hx
    rcases hx with rfl | rfl | rfl <;> rfl
  walk_at "rd"
  refine isE_of (T.is_BadStep .NoLetter) ?_
  walk_at "rd"
  refine isE_of (T.is_NotNow .NoLetter) ?_
  walk_at "rd"
  refine isE_of (T.is_Safe .NoLetter) ?_
  walk_at "rd"
  refine hot_loop (w := "letter") (eA := eA) rfl (by decide +kernel) (by decide +kernel) hF upd_same ?_ fun o H hF => ?_
  · intro x hx
    simp only [List.mem_cons, List.not_mem_nil, or_false] at hx
    rcases hx with rfl | rfl | rfl <;> rfl
  walk_at "rd"
  refine isE_of (T.is_NoLine .NoLetter) ?_
  walk_at "rd"
  refine g_rep (by decide) (by decide) (by decide +kernel) ?_
  refine g_catS (by decide +kernel) ?_
  walk_at "rd"
  refine isE_ty (T.is_ValueError .NoLetter) ?_
  walk_at "rd"
  refine g_rep (by decide) (by decide) (by decide +kernel) ?_
  walk_at "rd"
  rw [show strRep (("letter" : Str) ++ strRep "x" (if isNoLine .NoLetter = true then 1 else 0)) (if true = true then 1 else 0) = "letter" by decide +kernel]
  exact k _ (sLow (sLow hF (same_new (by assumption))) (same_new (by assumption)))
theorem rd_l_said {K : PySem.W.Frag} {mg : Str → Option Value} {a : Ad} (T : Txt K mg a) {vs : List V} {H : Hp} {Q : VK} {E : XK} (h : sp_l_said K a vs H Q E) : t_l_said K a { nx := fun _ H' => Q .non H', rt := Q } (start N_l_said vs) H := by
  obtain ⟨F, hF, p, x, dx, d, b, xs, rfl, P, hx, k1, k2⟩ := h
  have hp := P.hp
  unfold t_l_said b1_l_said
  walk_at "rd"
  refine ⟨F, hF, p, x, dx, d, b, xs, rfl, P, hx, fun v e H hF => ?_, fun e H hF => ?_⟩
  · walk_at "rd"
    exact k1 v e p1 hF1 _ hF
  · refine ⟨true, T.ex_PostError .NoLetter, fun _ a0 ha => ?_, fun z => nomatch z⟩
    refine ⟨.NoLetter, ⟨rfl, rfl⟩, ?_⟩
    walk_at "rd"
    refine ⟨F, hF, (), rfl, fun H hF => ?_⟩
    walk_at "rd"
    exact k2 e _ hF1 _ hF
theorem rd_l_thing {K : PySem.W.Frag} {mg : Str → Option Value} {a : Ad} (T : Txt K mg a) {vs : List V} {H : Hp} {Q : VK} {E : XK} (h : sp_l_thing K a vs H Q E) : t_l_thing K a { nx := fun _ H' => Q .non H', rt := Q } (start N_l_thing vs) H := by
  obtain ⟨F, hF, c, rfl, k⟩ := h
  unfold t_l_thing
  walk_at "rd"
  have h8 : c % 8 = 0 ∨ c % 8 = 1 ∨ c % 8 = 2 ∨ c % 8 = 3 ∨ c % 8 = 4 ∨ c % 8 = 5 ∨ c % 8 = 6 ∨ c % 8 = 7 := by omega
  rcases h8 with h8 | h8 | h8 | h8 | h8 | h8 | h8 | h8 <;> rw [h8] <;> refine g_ixL (sqL_of hF upd_same) rfl ?_ <;> refine k _ _ (by walk_at "grow") ?_ _ hF <;> unfold thing <;> rw [h8]
  · exact .fl (.str _ (by decide +kernel))
  · exact .fl (.str _ (by decide +kernel))
  · exact .fl (.int _)
  · exact .tup (by walk_at "at") (.int _) (.str _ (by decide +kernel))
  · exact .tup (by walk_at "at") (.int _) (.str _ (by decide +kernel))
  · exact .fl (.str _ (by decide +kernel))
  · exact .fl (.int _)
  · exact .tup (by walk_at "at") (.str _ (by decide +kernel)) (.int _)
theorem rd_l_due {K : PySem.W.Frag} {mg : Str → Option Value} {a : Ad} (T : Txt K mg a) {vs : List V} {H : Hp} {Q : VK} {E : XK} (h : sp_l_due K a vs H Q E) : t_l_due K a { nx := fun _ H' => Q .non H', rt := Q } (start N_l_due vs) H := by
  obtain ⟨F, hF, b, r, ys, rfl, hr, hl, k⟩ := h
  unfold t_l_due
  walk_at "rd"
  refine g_rg1 (by omega) (by omega) ?_
  rw [Int.toNat_natCast]
  refine lcp_range (fun i acc => acc = ((List.range' (lo b ys.length) (i - lo b ys.length)).map fun i => ((i : Nat) : Int)).map V.int) hF (by omega) ?_ ?_ ?_
  · rw [Nat.zero_sub]
    rfl
  · rintro D i acc H Z N hD hi rfl _ hF hz hn
    have hr2 := hr
    walk_at "rd"
    refine w_dec (fun h1 => ?_) (fun h1 => ?_)
    · walk_at "rd"
      refine hz _ _ hF ?_
      have e1 : lo b ys.length ≤ i := by
        unfold lo
        omega
      rw [show i + 1 - lo b ys.length = (i - lo b ys.length) + 1 by omega, List.range'_concat, List.map_append, List.map_append]
      congr 1
      show [V.int ((0 : Int) + (i : Nat))] = [V.int (((lo b ys.length + 1 * (i - lo b ys.length) : Nat)) : Int)]
      rw [show lo b ys.length + 1 * (i - lo b ys.length) = i by omega, Int.zero_add]
    · refine hn _ hF ?_
      have e1 : i < lo b ys.length := by
        unfold lo
        omega
      rw [show i + 1 - lo b ys.length = 0 by omega, show i - lo b ys.length = 0 by omega]
  · rintro D acc H hD rfl _ hF
    exact k D hD _ hF
theorem rd_l_there {K : PySem.W.Frag} {mg : Str → Option Value} {a : Ad} (T : Txt K mg a) {vs : List V} {H : Hp} {Q : VK} {E : XK} (h : sp_l_there K a vs H Q E) : t_l_there K a { nx := fun _ H' => Q .non H', rt := Q } (start N_l_there vs) H := by
  obtain ⟨F, hF, p, dx, d, r, l, b, xs, ys, os, rfl, P, hb, hr, hlen, hxl, hl, hol, k⟩ := h
  unfold t_l_there
  walk_at "rd"
  refine g_rcv hF P.hp (by walk_at "fact") ?_
  walk_at "rd"
  refine ⟨F, hF, p, dx, d, b, xs, rfl, P, hb, fun f hf H hF => ?_⟩
  walk_at "rd"
  unfold i1_l_there
  walk_at "rd"
  refine isi_lst hF upd_same ?_
  walk_at "rd"
  refine ⟨_, hF, b, r, ys, rfl, ?_, by omega, fun q hq H hF => ?_⟩
  · rw [upd_ne (ne_of_none hr hf)]
    exact hr
  walk_at "rd"
  rw [hlen] at hF
  refine g_neSame (Dp.lst (sqL_of hF (by walk_at "at")) (dpa_ints _)) (Dp.lst (sqL_of hF (by walk_at "at")) (dpa_ints _)) (shaped_ints _) ?_
  walk_at "rd"
  unfold i2_l_there
  walk_at "rd"
  refine lcp_list (fun i acc => acc = List.replicate i (V.bl true)) hF (sqL_of (fun _ _ z => z) (by walk_at "at")) (by rw [List.length_map]; exact Nat.le_trans (due_len2 _ _) (by omega)) rfl ?_ ?_
  · rintro D i x acc H Z N hD hi rfl _ hF hz hn
    obtain ⟨c, _, rfl⟩ := List.mem_map.mp (List.mem_of_getElem? hi)
    walk_at "rd"
    refine ⟨_, hF, _, rfl, .int _, fun H hF => ?_⟩
    rw [isInt_int]
    refine hz _ _ hF ?_
    rw [List.replicate_succ']
  · rintro D acc H hD rfl _ hF
    walk_at "rd"
    refine g_all (bs := List.replicate _ true) hF (by rw [List.map_replicate]; exact upd_same) ?_
    rw [show (List.replicate ((due b xs.length).map V.int).length true).all id = true by simp]
    walk_at "rd"
    replace hF := sLow (sLow hF (same_new hD)) (same_new hq)
    have nfl : l ≠ f := ne_of_none hl hf
    refine g_app hF upd_same (by rw [List.length_map]; exact Nat.le_trans (due_len2 _ _) (by omega)) fun H hF => ?_
    rw [upd_upd] at hF
    walk_at "rd"
    refine g_listOf hF (sqL_of (fun _ _ z => z) upd_same) fun c H hc hF => ?_
    walk_at "rd"
    have hc0 : Nn F c := nn_low hc
    have hp0 : Nn F p1 := nn_low (nn_low hF1)
    have ncf : c ≠ f := nn_ne hc
    have npc : p1 ≠ c := nn_ne hF1
    have npf : p1 ≠ f := nn_ne (nn_low hF1)
    have nlc : l ≠ c := ne_of_none hl hc0
    have nlp : l ≠ p1 := ne_of_none hl hp0
    refine g_app hF (by walk_at "at") (by omega) fun H hF => ?_
    walk_at "rd"
    refine k _ (os ++ [.ref p1]) ⟨fun x o hx hn => ?_, upd_same, by simp, fun o ho => ?_⟩ _ hF
    · have n1 : x ≠ p1 := ne_of_none hx hp0
      have n2 : x ≠ c := ne_of_none hx hc0
      have n3 : x ≠ f := ne_of_none hx hf
      walk_at "at"
    · rcases List.mem_append.mp ho with z | z
      · exact .inl z
      · have e := List.mem_singleton.mp z
        refine .inr ⟨p1, f, c, xs.length, b, e, hp0, hf, hc0, ?_, ?_, ?_⟩
        · rw [upd_ne nlp.symm, upd_same]
        · rw [upd_ne nfl.symm, upd_ne npf.symm, upd_ne ncf.symm, upd_same]
        · rw [upd_ne nlc.symm, upd_ne npc.symm, upd_same]
/-! things -/
theorem fl_sh {v : V} {d : PyData} (h : Fl v d) : d.canLay0 = true ∧ d.depth = 0 := by
  cases h with
  | int i => exact ⟨rfl, rfl⟩
  | str x hx => exact ⟨hx, rfl⟩
theorem th_sh {F : Hp} {v : V} {d : PyData} (h : Th F v d) : d.canLay0 = true ∧ d.depth ≤ 1 := by
  cases h with
  | fl h => exact ⟨(fl_sh h).1, by rw [(fl_sh h).2]; decide⟩
  | tup h hx hy =>
    have x1 := fl_sh hx
    have y1 := fl_sh hy
    constructor
    · simp [PyData.canLay0, PyData.canLayAll0, x1.1, y1.1]
    · simp [PyData.depth, PyData.depthAll, x1.2, y1.2]
theorem fl_dp {K : PySem.W.Frag} {F : Hp} {v : V} {d : PyData} (h : Fl v d) : Dp K F v d := by
  cases h with
  | int i => exact .int i
  | str x hx => exact .str x
theorem th_dp {K : PySem.W.Frag} {F : Hp} {v : V} {d : PyData} (h : Th F v d) : Dp K F v d := by
  cases h with
  | fl h => exact fl_dp h
  | tup h hx hy => exact Dp.tup (sqT_of (fun _ _ z => z) h) (DpAll.cons (fl_dp hx) (DpAll.cons (fl_dp hy) DpAll.nil))
theorem told_sh {F : Hp} {v : V} {d : PyData} (h : Th F v d) : SeqAt.shaped (.tuple [.str "told", d]) = true := by
  have x1 := th_sh h
  unfold SeqAt.shaped
  rw [Bool.and_eq_true]
  constructor
  · rw [PyData.canLay0, PyData.canLayAll0, PyData.canLayAll0, PyData.canLayAll0, x1.1]
    decide +kernel
  · refine decide_eq_true ?_
    simp [PyData.depth, PyData.depthAll]
    omega
theorem th_keep {F F' : Hp} (e : ∀ t ws, F t = some (.tup ws) → F' t = some (.tup ws)) {v : V} {d : PyData} (h : Th F v d) : Th F' v d := by
  cases h with
  | fl h => exact .fl h
  | tup h hx hy => exact .tup (e _ _ h) hx hy
theorem th_same {F F' : Hp} (e : Same F F') {v : V} {d : PyData} (h : Th F v d) : Th F' v d := th_keep (fun t ws z => e _ _ z) h
theorem ths_keep {F F' : Hp} (e : ∀ t ws, F t = some (.tup ws) → F' t = some (.tup ws)) {vs : List V} {ds : List PyData} (h : ThAll F vs ds) : ThAll F' vs ds := by
  induction h with
  | nil => exact .nil
  | cons h t ih => exact .cons (th_keep e h) ih
theorem ths_same {F F' : Hp} (e : Same F F') {vs : List V} {ds : List PyData} (h : ThAll F vs ds) : ThAll F' vs ds := ths_keep (fun t ws z => e _ _ z) h
theorem ths_len {F : Hp} {vs : List V} {ds : List PyData} (h : ThAll F vs ds) : vs.length = ds.length := by
  induction h with
  | nil => rfl
  | cons h t ih => rw [List.length_cons, List.length_cons, ih]
theorem ths_add {F : Hp} {vs : List V} {ds : List PyData} (h : ThAll F vs ds) {v : V} {d : PyData} (k : Th F v d) : ThAll F (vs ++ [v]) (ds ++ [d]) := by
  induction h with
  | nil => exact .cons k .nil
  | cons h t ih => exact .cons h ih
theorem ths_at {F : Hp} {vs : List V} {ds : List PyData} (h : ThAll F vs ds) : ∀ {i : Nat}, i < vs.length → ∃ v d, vs[i]? = some v ∧ ds[i]? = some d ∧ Th F v d := by
  induction h with
  | nil =>
    intro i hi
    cases hi
  | cons h t ih =>
    intro i hi
    cases i with
    | zero => exact ⟨_, _, rfl, rfl, h⟩
    | succ j => exact ih (Nat.lt_of_succ_lt_succ hi)
theorem told_eq {K : PySem.W.Frag} {F : Hp} {p q : Addr} {x y : V} {d : PyData} (hx : Th F x d) (hy : Th F y d) (hp : F p = some (.tup [.str "told", x])) (hq : F q = some (.tup [.str "told", y])) {H : Hp} (hF : Same F H) {Q : VK} (z : Q (.bl false) H) : rNeD K (.ref p) (.ref q) H Q :=
  g_neSame (d := .tuple [.str "told", d]) (dp_mono hF (Dp.tup (sqT_of (fun _ _ z => z) hp) (DpAll.cons (Dp.str _) (DpAll.cons (th_dp hx) DpAll.nil)))) (dp_mono hF (Dp.tup (sqT_of (fun _ _ z => z) hq) (DpAll.cons (Dp.str _) (DpAll.cons (th_dp hy) DpAll.nil)))) (told_sh hx) z
theorem ref_eq {K : PySem.W.Frag} {F : Hp} {p q : Addr} {x y : Str} (hp : F p = some (.tup [.str x, .str y])) (hq : F q = some (.tup [.str x, .str y])) (s : SeqAt.shaped (.tuple [.str x, .str y]) = true) {H : Hp} (hF : Same F H) {Q : VK} (z : Q (.bl false) H) : rNeD K (.ref p) (.ref q) H Q :=
  g_neSame (d := .tuple [.str x, .str y]) (dp_mono hF (Dp.tup (sqT_of (fun _ _ z => z) hp) (DpAll.cons (Dp.str _) (DpAll.cons (Dp.str _) DpAll.nil)))) (dp_mono hF (Dp.tup (sqT_of (fun _ _ z => z) hq) (DpAll.cons (Dp.str _) (DpAll.cons (Dp.str _) DpAll.nil)))) s z
theorem grow_refl {F : Hp} {l : Addr} {os : List V} (h : F l = some (.lst os)) : Grow F F l os os := ⟨fun x o h _ => h, h, by omega, fun o h => .inl h⟩
theorem post_keep {a : Ad} {F F' : Hp} {p dx d : Addr} {b : Nat} {xs : List V} (P : PostAt a F p dx d b xs) (e1 : F' p = F p) (e2 : F' d = F d) : PostAt a F' p dx d b xs := ⟨e1.trans P.hp, e2.trans P.hd⟩
theorem post_same {a : Ad} {F F' : Hp} {p dx d : Addr} {b : Nat} {xs : List V} (P : PostAt a F p dx d b xs) (e : Same F F') : PostAt a F' p dx d b xs := ⟨e _ _ P.hp, e _ _ P.hd⟩
theorem post_grow {a : Ad} {F F' : Hp} {p dx d l : Addr} {b : Nat} {xs os os' : List V} (P : PostAt a F p dx d b xs) (hl : F l = some (.lst os)) (g : Grow F F' l os os') : PostAt a F' p dx d b xs :=
  ⟨g.kp _ _ P.hp (ne_of P.hp hl (by intro z; cases z)), g.kp _ _ P.hd (ne_of P.hd hl (by intro z; cases z))⟩
theorem ths_grow {F F' : Hp} {l : Addr} {os os' vs : List V} {ds : List PyData} (h : ThAll F vs ds) (hl : F l = some (.lst os)) (g : Grow F F' l os os') : ThAll F' vs ds :=
  ths_keep (fun t ws e => g.kp _ _ e (ne_of e hl (by intro z; cases z))) h
theorem got_due {b : Nat} {xs : List V} {i : Int} (h : i ∈ due b xs.length) : 0 ≤ i ∧ i.toNat < xs.length ∧ (i.toNat : Int) = i ∧ ∀ v, xs[i.toNat]? = some v → got b xs (.int i) = some v := by
  unfold due at h
  obtain ⟨j, hj, rfl⟩ := List.mem_map.mp h
  have e := mem_rng.mp hj
  refine ⟨by omega, by omega, by omega, fun v hv => ?_⟩
  show gotI b xs _ = _
  unfold gotI
  rw [if_pos ⟨by omega, by omega⟩, List.getD_eq_getElem?_getD, hv]
  rfl
theorem got_off {b : Nat} {xs : List V} {i : Int} (h : i ∉ due b xs.length) : got b xs (.int i) = none := by
  show gotI b xs _ = _
  unfold gotI
  rw [if_neg]
  rintro ⟨h1, h2⟩
  refine h ?_
  unfold due
  exact List.mem_map.mpr ⟨i.toNat, mem_rng.mpr (by omega), by omega⟩
theorem rd_l_stands {K : PySem.W.Frag} {mg : Str → Option Value} {a : Ad} (T : Txt K mg a) {vs : List V} {H : Hp} {Q : VK} {E : XK} (h : sp_l_stands K a vs H Q E) : t_l_stands K a { nx := fun _ H' => Q .non H', rt := Q } (start N_l_stands vs) H := by
  obtain ⟨F, hF, p, dx, d, r, l, b, w, xs, ys, os, ds, rfl, P, hb, hr, tx, ty, hxl, hl, hol, nlr, k⟩ := h
  have hp := P.hp
  have hlen : ys.length = xs.length := by rw [ths_len tx, ths_len ty]
  unfold t_l_stands
  walk_at "rd"
  refine w_dec (fun h1 => ?_) (fun h1 => ?_)
  · walk_at "rd"
    exact k F os (grow_refl hl) _ hF
  walk_at "rd"
  unfold i1_l_stands
  walk_at "rd"
  have go : ∀ (F1 : Hp) (H1 : Hp) (os1 : List V), Grow F F1 l os os1 → Same F1 H1 → (w ≠ 0 → os1 = os ∧ F1 = F) → sp_l_due K a [V.int ↑b, V.ref r] H1
    (fun x H1 =>
      ∃ a_1,
        x = V.ref a_1 ∧
          (∃ xs, SqL K H1 a_1 xs) ∧
            Lp (Itl K a_1) (gName 5) (b1_l_stands K a)
              (tSeq (i3_l_stands K a)
                (tRet
                  (tOrV (tOp rEq (tVar 4) (tC (V.int 0)))
                    (tCall (sp_l_there K a) [] E0
                      (tCons (tVar 0) (tCons (tVar 1) (tCons (tVar 2) (tCons (tVar 3) tNil)))))))
                { nx := fun x H' => Q V.non H', rt := Q })
              Q (L2.start N_l_stands [V.ref p, V.int ↑b, V.ref r, V.ref l, V.int w]) H1)
    E0 := by
    intro F1 H os1 g hF hw
    have P1 := post_grow P hl g
    have hr1 := g.kp _ _ hr nlr.symm
    have tx1 := ths_grow tx hl g
    have ty1 := ths_grow ty hl g
    walk_at "rd"
    refine ⟨F1, hF, b, r, ys, rfl, hr1, by omega, fun q hq H hF => ?_⟩
    walk_at "rd"
    have P2 := post_same P1 (same_new (o := .lst ((due b ys.length).map V.int)) hq)
    have hr2 := (same_new (o := .lst ((due b ys.length).map V.int)) hq) _ _ hr1
    have tx2 := ths_keep (fun t ws e => (same_new (o := .lst ((due b ys.length).map V.int)) hq) _ _ e) tx1
    have ty2 := ths_keep (fun t ws e => (same_new (o := .lst ((due b ys.length).map V.int)) hq) _ _ e) ty1
    refine lp_list (xs := (due b ys.length).map V.int) (fun i σ F' => F' = upd F1 q (.lst ((due b ys.length).map V.int)) ∧ ∃ o, σ = [some (.ref p), some (.int ((b : Nat) : Int)), some (.ref r), some (.ref l), some (.int w), o]) hF ⟨rfl, none, rfl⟩ ?_ ?_ ?_
    · rintro i σ F hi ⟨rfl, -⟩
      exact sqL_of (fun _ _ z => z) upd_same
    · rintro i x σ F H hi ⟨rfl, o, rfl⟩ hF
      obtain ⟨c, hc, rfl⟩ := List.mem_map.mp (List.mem_of_getElem? hi)
      rw [hlen] at hc
      obtain ⟨c0, c1, c2, c3⟩ := got_due hc
      obtain ⟨v, dv, g1, g2, g3⟩ := ths_at tx2 c1
      obtain ⟨v', dv', g1', g2', g3'⟩ := ths_at ty2 (show c.toNat < ys.length by omega)
      have e : dv' = dv := Option.some.inj (g2'.symm.trans g2)
      subst e
      unfold b1_l_stands i2_l_stands
      walk_at "rd"
      refine ⟨_, hF, p, .int c, dx, d, b, xs, rfl, P2, .int c, fun v2 e t ht H hF => ?_, fun e => ?_⟩
      · have e2 : v2 = v := Option.some.inj (e.symm.trans (c3 v g1))
        subst e2
        walk_at "rd"
        refine g_ixL (sqL_of hF (by walk_at "at")) (v := v') (atI_of c0 g1') ?_
        walk_at "rd"
        have s9 := Same.trans (same_new (o := .tup [.str "told", v2]) ht) (same_new (o := .tup [.str "told", v']) hF1)
        refine told_eq (F := upd (upd (upd F1 q (.lst ((due b ys.length).map V.int))) t (.tup [.str "told", v2])) p1 (.tup [.str "told", v'])) (th_same s9 g3) (th_same s9 g3') (by walk_at "at") upd_same hF ?_
        walk_at "rd"
        exact ⟨_, sLow hF s9, rfl, some (.int c), rfl⟩
      · rw [c3 v g1] at e
        cases e
    · rintro σ F H ⟨rfl, o, rfl⟩ hF
      have en : got b xs (.int ((ys.length : Nat) : Int)) = none := by
        refine got_off fun z => ?_
        have := (got_due z).2.1
        omega
      unfold i3_l_stands
      walk_at "rd"
      refine ⟨_, hF, p, _, dx, d, b, xs, rfl, P2, .int _, fun v e => ?_, fun e t ht H hF => ?_⟩
      · rw [en] at e
        cases e
      walk_at "rd"
      refine ref_eq (F := upd (upd (upd F1 q (.lst ((due b ys.length).map V.int))) t (.tup [.str "refused", .str "letter"])) p1 (.tup [.str "refused", .str "letter"])) (by walk_at "at") upd_same (by decide +kernel) hF ?_
      walk_at "rd"
      have s9 := Same.trans (Same.trans (same_new (o := .lst ((due b ys.length).map V.int)) hq) (same_new (o := .tup [.str "refused", .str "letter"]) ht)) (same_new (o := .tup [.str "refused", .str "letter"]) hF1)
      have hF9 := sLow hF s9
      refine w_dec (fun h2 => ?_) (fun h2 => ?_)
      · walk_at "rd"
        exact k F1 os1 g _ hF9
      · obtain ⟨rfl, rfl⟩ := hw h2
        walk_at "rd"
        refine ⟨_, hF9, p, dx, d, r, l, b, xs, ys, _, rfl, P1, hb, hr1, hlen, hxl, hl, hol, fun F2 os2 g H hF => ?_⟩
        walk_at "rd"
        exact k F2 os2 g _ hF
  refine w_dec (fun h2 => ?_) (fun h2 => ?_)
  · walk_at "rd"
    refine ⟨_, hF, p, dx, d, r, l, b, xs, ys, _, rfl, P, hb, hr, hlen, hxl, hl, hol, fun F2 os2 g H hF => ?_⟩
    walk_at "rd"
    exact go F2 H os2 g hF (fun z => absurd h2 z)
  · walk_at "rd"
    exact go F H os (grow_refl hl) hF (fun _ => ⟨rfl, rfl⟩)
/-! the law's heap -/
def two {A : Type} (x y : A) (i : Bool) : A := if i = true then y else x
def set2 {A : Type} (f : Bool → A) (w : Bool) (v : A) (i : Bool) : A := if i = w then v else f i
def OldOk (F : Hp) (l : Addr) (r : Bool → Addr) (o : V) : Prop := ∃ t f c m b, o = .ref t ∧ F t = some (.tup [.ref f, .ref c]) ∧ F f = some (.lst ((due b m).map V.int ++ [.str "more"])) ∧ F c = some (.lst ((due b m).map V.int ++ [.str "more"])) ∧ f ≠ l ∧ c ≠ l ∧ ∀ i, f ≠ r i ∧ c ≠ r i
structure St (a : Ad) (F : Hp) (B PL R l : Addr) (p d dx r : Bool → Addr) (b : Bool → Nat) (xs ys : Bool → List V) (dxs dys : Bool → List PyData) (os : List V) : Prop where
  hB : F B = some (.lst [.int (b false : Nat), .int (b true : Nat)])
  hPL : F PL = some (.lst [.ref (p false), .ref (p true)])
  hR : F R = some (.lst [.ref (r false), .ref (r true)])
  hl : F l = some (.lst os)
  P : ∀ i, PostAt a F (p i) (dx i) (d i) (b i) (xs i)
  hr : ∀ i, F (r i) = some (.lst (ys i))
  tx : ∀ i, ThAll F (xs i) (dxs i)
  ty : ∀ i, ThAll F (ys i) (dys i)
  hb : ∀ i, b i ≤ 50
  np : p false ≠ p true
  nd : d false ≠ d true
  nr : r false ≠ r true
  nB : B ≠ l ∧ ∀ i, B ≠ r i
  nPL : PL ≠ l ∧ ∀ i, PL ≠ r i
  nR : R ≠ l ∧ ∀ i, R ≠ r i
  nl : ∀ i, l ≠ r i
  old : ∀ o ∈ os, OldOk F l r o
section
variable {a : Ad} {F F' : Hp} {B PL R l : Addr} {p d dx r : Bool → Addr} {b : Bool → Nat} {xs ys : Bool → List V} {dxs dys : Bool → List PyData} {os os' : List V}
theorem st_same (S : St a F B PL R l p d dx r b xs ys dxs dys os) (e : Same F F') : St a F' B PL R l p d dx r b xs ys dxs dys os where
  hB := e _ _ S.hB
  hPL := e _ _ S.hPL
  hR := e _ _ S.hR
  hl := e _ _ S.hl
  P i := post_same (S.P i) e
  hr i := e _ _ (S.hr i)
  tx i := ths_same e (S.tx i)
  ty i := ths_same e (S.ty i)
  hb := S.hb
  np := S.np
  nd := S.nd
  nr := S.nr
  nB := S.nB
  nPL := S.nPL
  nR := S.nR
  nl := S.nl
  old o h := by
    obtain ⟨t, f, c, m, b, z, h1, h2, h3, h4⟩ := S.old o h
    exact ⟨t, f, c, m, b, z, e _ _ h1, e _ _ h2, e _ _ h3, h4⟩
theorem st_grow (S : St a F B PL R l p d dx r b xs ys dxs dys os) (g : Grow F F' l os os') : St a F' B PL R l p d dx r b xs ys dxs dys os' where
  hB := g.kp _ _ S.hB S.nB.1
  hPL := g.kp _ _ S.hPL S.nPL.1
  hR := g.kp _ _ S.hR S.nR.1
  hl := g.at_
  P i := post_grow (S.P i) S.hl g
  hr i := g.kp _ _ (S.hr i) (S.nl i).symm
  tx i := ths_grow (S.tx i) S.hl g
  ty i := ths_grow (S.ty i) S.hl g
  hb := S.hb
  np := S.np
  nd := S.nd
  nr := S.nr
  nB := S.nB
  nPL := S.nPL
  nR := S.nR
  nl := S.nl
  old o h := by
    rcases g.nw o h with h | h
    · obtain ⟨t, f, c, m, b, z, h1, h2, h3, h4, h5, h6⟩ := S.old o h
      exact ⟨t, f, c, m, b, z, g.kp _ _ h1 (ne_of h1 S.hl (by intro z; cases z)), g.kp _ _ h2 h4, g.kp _ _ h3 h5, h4, h5, h6⟩
    · obtain ⟨t, f, c, m, b, z, n1, n2, n3, h1, h2, h3⟩ := h
      exact ⟨t, f, c, m, b, z, h1, h2, h3, (ne_of_none S.hl n2).symm, (ne_of_none S.hl n3).symm, fun i => ⟨(ne_of_none (S.hr i) n2).symm, (ne_of_none (S.hr i) n3).symm⟩⟩
theorem st_post (S : St a F B PL R l p d dx r b xs ys dxs dys os) (w : Bool) {v : V} {dv : PyData} (t : Th F v dv) : St a (upd (upd F (d w) (.dK (win (b w) (xs w ++ [v])))) (p w) (pst a (dx w) (d w) (b w) ((xs w).length + 1))) B PL R l p d dx r b (set2 xs w (xs w ++ [v])) ys (set2 dxs w (dxs w ++ [dv])) dys os := by
  have kl : ∀ x ws, F x = some (.lst ws) → (upd (upd F (d w) (.dK (win (b w) (xs w ++ [v])))) (p w) (pst a (dx w) (d w) (b w) ((xs w).length + 1))) x = some (.lst ws) := fun x ws e => by
    rw [upd_ne (ne_of e (S.P w).hp (by intro z; cases z)), upd_ne (ne_of e (S.P w).hd (by intro z; cases z))]
    exact e
  have kt : ∀ x ws, F x = some (.tup ws) → (upd (upd F (d w) (.dK (win (b w) (xs w ++ [v])))) (p w) (pst a (dx w) (d w) (b w) ((xs w).length + 1))) x = some (.tup ws) := fun x ws e => by
    rw [upd_ne (ne_of e (S.P w).hp (by intro z; cases z)), upd_ne (ne_of e (S.P w).hd (by intro z; cases z))]
    exact e
  have npd : ∀ i j, d i ≠ p j := fun i j => ne_of (S.P i).hd (S.P j).hp (by intro z; cases z)
  have npp : ∀ i, i ≠ w → p i ≠ p w ∧ d i ≠ d w := fun i hi => by
    cases i <;> cases w <;> first | exact absurd rfl hi | exact ⟨S.np, S.nd⟩ | exact ⟨S.np.symm, S.nd.symm⟩
  refine ⟨kl _ _ S.hB, kl _ _ S.hPL, kl _ _ S.hR, kl _ _ S.hl, fun i => ?_, fun i => kl _ _ (S.hr i), fun i => ?_, fun i => ths_keep kt (S.ty i), S.hb, S.np, S.nd, S.nr, S.nB, S.nPL, S.nR, S.nl, fun o h => ?_⟩
  · unfold set2
    by_cases hi : i = w
    · subst hi
      rw [if_pos rfl]
      refine ⟨?_, ?_⟩
      · rw [upd_same, List.length_append]
        rfl
      · rw [upd_ne (npd _ _), upd_same]
    · rw [if_neg hi]
      refine post_keep (S.P i) ?_ ?_
      · rw [upd_ne (npp i hi).1, upd_ne (npd _ _).symm]
      · rw [upd_ne (npd _ _), upd_ne (npp i hi).2]
  · unfold set2
    by_cases hi : i = w
    · subst hi
      rw [if_pos rfl, if_pos rfl]
      exact ths_keep kt (ths_add (S.tx i) t)
    · rw [if_neg hi, if_neg hi]
      exact ths_keep kt (S.tx i)
  · obtain ⟨t, f, c, m, b, z, h1, h2, h3, h4⟩ := S.old o h
    exact ⟨t, f, c, m, b, z, kt _ _ h1, kl _ _ h2, kl _ _ h3, h4⟩
theorem st_row (S : St a F B PL R l p d dx r b xs ys dxs dys os) (w : Bool) {v : V} {dv : PyData} (t : Th F v dv) : St a (upd F (r w) (.lst (ys w ++ [v]))) B PL R l p d dx r b xs (set2 ys w (ys w ++ [v])) dxs (set2 dys w (dys w ++ [dv])) os := by
  have kn : ∀ x o, x ≠ r w → F x = some o → (upd F (r w) (.lst (ys w ++ [v]))) x = some o := fun x o n e => by rw [upd_ne n]; exact e
  have kt : ∀ x ws, F x = some (.tup ws) → (upd F (r w) (.lst (ys w ++ [v]))) x = some (.tup ws) := fun x ws e => kn _ _ (ne_of e (S.hr w) (by intro z; cases z)) e
  have nrr : ∀ i, i ≠ w → r i ≠ r w := fun i hi => by
    cases i <;> cases w <;> first | exact absurd rfl hi | exact S.nr | exact S.nr.symm
  refine ⟨kn _ _ (S.nB.2 w) S.hB, kn _ _ (S.nPL.2 w) S.hPL, kn _ _ (S.nR.2 w) S.hR, kn _ _ (S.nl w) S.hl, fun i => ⟨kn _ _ (ne_of (S.P i).hp (S.hr w) (by intro z; cases z)) (S.P i).hp, kn _ _ (ne_of (S.P i).hd (S.hr w) (by intro z; cases z)) (S.P i).hd⟩, fun i => ?_, fun i => ths_keep kt (S.tx i), fun i => ?_, S.hb, S.np, S.nd, S.nr, S.nB, S.nPL, S.nR, S.nl, fun o h => ?_⟩
  · unfold set2
    by_cases hi : i = w
    · subst hi
      rw [if_pos rfl, upd_same]
    · rw [if_neg hi]
      exact kn _ _ (nrr i hi) (S.hr i)
  · unfold set2
    by_cases hi : i = w
    · subst hi
      rw [if_pos rfl, if_pos rfl]
      exact ths_keep kt (ths_add (S.ty i) t)
    · rw [if_neg hi, if_neg hi]
      exact ths_keep kt (S.ty i)
  · obtain ⟨t, f, c, m, b, z, h1, h2, h3, h4, h5, h6⟩ := S.old o h
    exact ⟨t, f, c, m, b, z, kt _ _ h1, kn _ _ (h6 w).1 h2, kn _ _ (h6 w).2 h3, h4, h5, h6⟩
end
theorem cutV_len {xs : List V} {lo hi : Option Int} : (cutV xs lo hi).length ≤ xs.length := by
  unfold cutV
  rw [List.length_take, List.length_drop]
  omega
theorem lay_app : ∀ (xs ys : List PyData), PyData.canLayAll0 (xs ++ ys) = (PyData.canLayAll0 xs && PyData.canLayAll0 ys)
  | [], ys => rfl
  | x :: r, ys => by
    rw [List.cons_append, PyData.canLayAll0, lay_app r ys, PyData.canLayAll0, Bool.and_assoc]
theorem depth_app : ∀ (xs ys : List PyData), PyData.depthAll xs ≤ 1 → PyData.depthAll ys ≤ 1 → PyData.depthAll (xs ++ ys) ≤ 1
  | [], ys, _, h => h
  | x :: r, ys, h1, h2 => by
    rw [PyData.depthAll] at h1
    rw [List.cons_append, PyData.depthAll]
    have := depth_app r ys (by omega) h2
    omega
theorem dpa_app {K : PySem.W.Frag} {F : Hp} : ∀ {vs : List V} {ds : List PyData} {ws : List V} {es : List PyData}, DpAll K F vs ds → DpAll K F ws es → DpAll K F (vs ++ ws) (ds ++ es)
  | _, _, _, _, .nil, h => h
  | _, _, _, _, .cons a t, h => .cons a (dpa_app t h)
theorem more_sh (ns : List Int) : SeqAt.shaped (.list (ns.map PyData.int ++ [.str "more"])) = true := by
  unfold SeqAt.shaped
  have h := depth_app (ns.map PyData.int) [.str "more"] (by rw [depth_ints]; decide) (by decide)
  rw [PyData.canLay0, lay_app, lay_ints, Bool.and_eq_true]
  refine ⟨by decide +kernel, decide_eq_true ?_⟩
  rw [PyData.depth]
  omega
def jOf (w : Bool) : Int := if w = true then 1 else 0
theorem at2 (f : Bool → V) (w : Bool) : atI [f false, f true] (jOf w) = some (f w) := by cases w <;> rfl
theorem jOf_of {j : Int} (h0 : 0 ≤ j) (h1 : j < 2) : ∃ w, j = jOf w := by
  rcases (show j = 0 ∨ j = 1 by omega) with h | h
  · exact ⟨false, h⟩
  · exact ⟨true, h⟩
theorem inV_ints (i : Int) : ∀ ns : List Int, inV (.int i) (ns.map V.int) = decide (i ∈ ns)
  | [] => rfl
  | n :: r => by
    have e : eqV (V.int n) (V.int i) = decide (n = i) := rfl
    have h := inV_ints i r
    unfold inV at h ⊢
    rw [List.map_cons, List.any_cons, h, e]
    by_cases z : n = i
    · subst z
      simp
    · have z2 : ¬ i = n := fun q => z q.symm
      simp [z, z2]
theorem flat_ints : ∀ ns : List Int, (ns.map V.int).all flatV = true
  | [] => rfl
  | n :: r => by
    rw [List.map_cons, List.all_cons, flat_ints r]
    rfl
theorem post_new {a : Ad} {F : Hp} {p dx d : Addr} {b : Nat} {o1 o2 : HO} (hp : Nn F p) (hdx : Nn F dx) (ne : dx ≠ p) (hd : Nn (upd (upd F dx o1) p o2) d) :
    Same F (upd (upd (upd (upd F dx o1) p o2) d (.dK [])) p (pst a dx d b 0)) ∧ PostAt a (upd (upd (upd (upd F dx o1) p o2) d (.dK [])) p (pst a dx d b 0)) p dx d b [] ∧ Nn F d := by
  have nd : d ≠ p := nn_ne hd
  have hd0 : Nn F d := nn_low (nn_low hd)
  refine ⟨same_mut hp (same_mut hd0 (same_mut hp (same_mut hdx (Same.refl _)))), ⟨upd_same, ?_⟩, hd0⟩
  rw [win_nil, upd_ne nd, upd_same]
theorem st_start {a : Ad} {F : Hp} {B PL R l p0 p1 d0 d1 dx0 dx1 r0 r1 : Addr} {b0 b1 : Nat} (hB : F B = some (.lst [.int (b0 : Nat), .int (b1 : Nat)])) (P0 : PostAt a F p0 dx0 d0 b0 []) (P1 : PostAt a F p1 dx1 d1 b1 []) (np : p0 ≠ p1) (nd : d0 ≠ d1) (hb0 : b0 ≤ 50) (hb1 : b1 ≤ 50)
    (nPL : Nn F PL) (nr0 : Nn (upd F PL (.lst [.ref p0, .ref p1])) r0) (nr1 : Nn (upd (upd F PL (.lst [.ref p0, .ref p1])) r0 (.lst [])) r1) (nR : Nn (upd (upd (upd F PL (.lst [.ref p0, .ref p1])) r0 (.lst [])) r1 (.lst [])) R)
    (nl : Nn (upd (upd (upd (upd F PL (.lst [.ref p0, .ref p1])) r0 (.lst [])) r1 (.lst [])) R (.lst [.ref r0, .ref r1])) l) :
    Same F (upd (upd (upd (upd (upd F PL (.lst [.ref p0, .ref p1])) r0 (.lst [])) r1 (.lst [])) R (.lst [.ref r0, .ref r1])) l (.lst [])) ∧
    St a (upd (upd (upd (upd (upd F PL (.lst [.ref p0, .ref p1])) r0 (.lst [])) r1 (.lst [])) R (.lst [.ref r0, .ref r1])) l (.lst [])) B PL R l (two p0 p1) (two d0 d1) (two dx0 dx1) (two r0 r1) (two b0 b1) (fun _ => []) (fun _ => []) (fun _ => []) (fun _ => []) [] ∧ Nn F r0 ∧ Nn F r1 ∧ Nn F l := by
  have e : Same F (upd (upd (upd (upd (upd F PL (.lst [.ref p0, .ref p1])) r0 (.lst [])) r1 (.lst [])) R (.lst [.ref r0, .ref r1])) l (.lst [])) := (((Same.trans (same_new nPL) (same_new nr0)).trans (same_new nr1)).trans (same_new nR)).trans (same_new nl)
  have r0P := nn_ne nr0
  have r1r0 := nn_ne nr1
  have r1P := nn_ne (nn_low nr1)
  have Rr1 := nn_ne nR
  have Rr0 := nn_ne (nn_low nR)
  have RP := nn_ne (nn_low (nn_low nR))
  have lR := nn_ne nl
  have lr1 := nn_ne (nn_low nl)
  have lr0 := nn_ne (nn_low (nn_low nl))
  have lP := nn_ne (nn_low (nn_low (nn_low nl)))
  have mr0 : Nn F r0 := nn_low nr0
  have mr1 : Nn F r1 := nn_low (nn_low nr1)
  have mR : Nn F R := nn_low (nn_low (nn_low nR))
  have ml : Nn F l := nn_low (nn_low (nn_low (nn_low nl)))
  refine ⟨e, ⟨e _ _ hB, ?_, ?_, upd_same, ?_, ?_, fun _ => .nil, fun _ => .nil, ?_, np, nd, r1r0.symm, ⟨ne_of_none hB ml, ?_⟩, ⟨lP.symm, ?_⟩, ⟨lR.symm, ?_⟩, ?_, by intro o h; cases h⟩, mr0, mr1, ml⟩
  · rw [upd_ne lP.symm, upd_ne RP.symm, upd_ne r1P.symm, upd_ne r0P.symm, upd_same]
    rfl
  · rw [upd_ne lR.symm, upd_same]
    rfl
  · intro i
    cases i
    · exact post_same P0 e
    · exact post_same P1 e
  · intro i
    cases i
    · show (upd _ _ _) r0 = some (.lst [])
      rw [upd_ne lr0.symm, upd_ne Rr0.symm, upd_ne r1r0.symm, upd_same]
    · show (upd _ _ _) r1 = some (.lst [])
      rw [upd_ne lr1.symm, upd_ne Rr1.symm, upd_same]
  · intro i
    cases i
    · exact hb0
    · exact hb1
  · intro i
    cases i
    · exact ne_of_none hB mr0
    · exact ne_of_none hB mr1
  · intro i
    cases i
    · exact r0P.symm
    · exact r1P.symm
  · intro i
    cases i
    · exact Rr0
    · exact Rr1
  · intro i
    cases i
    · exact lr0
    · exact lr1
def Mu (l : Addr) (p d r : Bool → Addr) (x : Addr) : Prop := x = l ∨ ∃ i, x = p i ∨ x = d i ∨ x = r i
def Kp (M : Addr → Prop) (F F' : Hp) : Prop := ∀ x o, F x = some o → ¬ M x → F' x = some o
theorem kp_refl {M : Addr → Prop} {F : Hp} : Kp M F F := fun x o h _ => h
theorem kp_same {M : Addr → Prop} {F F1 F2 : Hp} (h : Kp M F F1) (e : Same F1 F2) : Kp M F F2 := fun x o h1 h2 => e _ _ (h x o h1 h2)
theorem kp_mut {M : Addr → Prop} {F F1 : Hp} (h : Kp M F F1) {p : Addr} {o : HO} (m : M p) : Kp M F (upd F1 p o) := fun x u h1 h2 => by
  rw [upd_ne (fun z => h2 (by rw [z]; exact m))]
  exact h x u h1 h2
theorem kp_grow {M : Addr → Prop} {F F1 F2 : Hp} {l : Addr} {os os' : List V} (h : Kp M F F1) (g : Grow F1 F2 l os os') (m : M l) : Kp M F F2 := fun x u h1 h2 => g.kp _ _ (h x u h1 h2) (fun z => h2 (by rw [z]; exact m))
theorem kp_low {M : Addr → Prop} {F0 F F1 : Hp} (h : Kp M F F1) (e : Same F0 F) (n : ∀ x, M x → Nn F0 x) : Same F0 F1 := fun x o h1 => h x o (e _ _ h1) (fun m => by
  have h2 : F0 x = none := n x m
  rw [h2] at h1
  cases h1)
abbrev lw (sc B PL R l : Addr) (o1 o6 o7 o8 o9 o10 o11 o12 o13 : Option V) : L2.St := [some (.ref sc), o1, some (.ref B), some (.ref PL), some (.ref R), some (.ref l), o6, o7, o8, o9, o10, o11, o12, o13]
theorem i4_ok {K : PySem.W.Frag} {mg : Str → Option Value} {a : Ad} (T : Txt K mg a) {F H Fs : Hp} {sc B PL R l : Addr} {p d dx r : Bool → Addr} {b : Bool → Nat} {xs ys : Bool → List V} {ds : Bool → List PyData} {os : List V} {o1 o8 o9 o10 o11 o12 o13 : Option V} {c : Int} {w : Bool} {n : Nat} {nN nB nC : L2.St → Hp → Prop} {nR : VK}
    (S : St a F B PL R l p d dx r b xs ys ds ds os) (kp : Kp (Mu l p d r) Fs F) (hn : n ≤ 800) (hx : ∀ i, (xs i).length ≤ n) (hF : Same F H)
    (q : ∀ F' H' xs' ys' ds' o8' o9' o10' o11', St a F' B PL R l p d dx r b xs' ys' ds' ds' os → Kp (Mu l p d r) Fs F' → (∀ i, (xs' i).length ≤ n + 1) → Same F' H' → nN (lw sc B PL R l o1 (some (.int c)) (some (.int (jOf w))) o8' o9' o10' o11' o12 o13) H') :
    i4_law K a (Ends.mk nN nR nB nC) (lw sc B PL R l o1 (some (.int c)) (some (.int (jOf w))) o8 o9 o10 o11 o12 o13) H := by
  have hlen : ∀ i, (ys i).length = (xs i).length := fun i => by rw [ths_len (S.tx i), ths_len (S.ty i)]
  unfold i4_law
  walk_at "rd"
  refine w_dec (fun h1 => ?_) (fun h1 => ?_)
  · walk_at "rd"
    have hpw := (S.P w).hp
    refine g_ixL (sqL_of hF S.hPL) (at2 (fun i => .ref (p i)) w) ?_
    walk_at "rd"
    refine ⟨F, hF, _, rfl, fun v F1 e1 th H hF => ?_⟩
    walk_at "rd"
    refine ⟨F1, hF, p w, v, dx w, d w, b w, xs w, rfl, post_same (S.P w) e1, by have := hx w; omega, fun H hF => ?_⟩
    obtain ⟨F2, hF, S2, kp2⟩ : ∃ F2, Same F2 H ∧ St a F2 B PL R l p d dx r b (set2 xs w (xs w ++ [v])) ys (set2 ds w (ds w ++ [thing (c / 4)])) ds os ∧ Kp (Mu l p d r) Fs F2 := ⟨_, hF, st_post (st_same S e1) w th, kp_mut (kp_mut (kp_same kp e1) (.inr ⟨w, .inr (.inl rfl)⟩)) (.inr ⟨w, .inl rfl⟩)⟩
    have hr2 := S2.hr w
    unfold i1_law
    walk_at "rd"
    refine ⟨F2, hF, _, rfl, .int _, fun H hF => ?_⟩
    rw [isInt_int]
    walk_at "rd"
    refine g_ixL (sqL_of hF S2.hR) (at2 (fun i => .ref (r i)) w) ?_
    walk_at "rd"
    rw [hlen w, decide_eq_true rfl]
    walk_at "rd"
    refine g_ixL (sqL_of hF S2.hR) (at2 (fun i => .ref (r i)) w) ?_
    walk_at "rd"
    refine ⟨F2, hF, _, rfl, fun v' F3 e3 th' H hF => ?_⟩
    have S3 := st_same S2 e3
    walk_at "rd"
    refine g_app hF (S3.hr w) (by have := hx w; have := hlen w; omega) fun H hF => ?_
    refine q _ _ _ _ _ _ _ _ _ (st_row S3 w th') (kp_mut (kp_same kp2 e3) (.inr ⟨w, .inr (.inr rfl)⟩)) (fun i => ?_) hF
    unfold set2
    by_cases hi : i = w
    · subst hi
      rw [if_pos rfl, List.length_append]
      have := hx i
      show (xs i).length + 1 ≤ _
      omega
    · rw [if_neg hi]
      have := hx i
      omega
  · walk_at "rd"
    have hrw := S.hr w
    refine g_ixL (sqL_of hF S.hB) (at2 (fun i => .int (b i : Nat)) w) ?_
    walk_at "rd"
    refine g_ixL (sqL_of hF S.hR) (at2 (fun i => .ref (r i)) w) ?_
    walk_at "rd"
    generalize (((ys w).length : Int) - 2 - (b w : Int) + c / 4 % ((b w : Int) + 4)) = x
    have fin : ∀ F' H' A, Same F F' → Same F' H' → ((got (b w) (xs w) (.int x) = none ∧ F' A = some (.tup [.str "refused", .str "letter"])) ∨ ∃ v v0 dv, got (b w) (xs w) (.int x) = some v0 ∧ Th F' v0 dv ∧ Th F' v dv ∧ F' A = some (.tup [.str "told", v])) →
        i3_law K a (Ends.mk nN nR nB nC) (lw sc B PL R l o1 (some (.int c)) (some (.int (jOf w))) o8 (some (.int (b w : Nat))) (some (.int x)) (some (.ref A)) o12 o13) H' := by
      intro F' H A e hF hA
      have S' := st_same S e
      have kp' := kp_same kp e
      unfold i3_law
      walk_at "rd"
      refine g_ixL (sqL_of hF S'.hPL) (at2 (fun i => .ref (p i)) w) ?_
      walk_at "rd"
      rcases hA with ⟨g, hA⟩ | ⟨v, v0, dv, g, t0, t1, hA⟩
      · refine ⟨F', hF, p w, .int x, dx w, d w, b w, xs w, rfl, S'.P w, .int _, fun v g2 => ?_, fun g2 t ht H hF => ?_⟩
        · rw [g] at g2
          cases g2
        · walk_at "rd"
          refine ref_eq upd_same (by walk_at "at") (by decide +kernel) hF ?_
          walk_at "rd"
          exact q _ _ _ _ _ _ _ _ _ S' kp' (fun i => by have := hx i; omega) (sLow hF (same_new ht))
      · refine ⟨F', hF, p w, .int x, dx w, d w, b w, xs w, rfl, S'.P w, .int _, fun v2 g2 t ht H hF => ?_, fun g2 => ?_⟩
        · have e2 : v2 = v0 := Option.some.inj (g2.symm.trans g)
          subst e2
          walk_at "rd"
          have s9 := same_new (o := .tup [.str "told", v2]) ht
          refine told_eq (F := upd F' t (.tup [.str "told", v2])) (th_same s9 t0) (th_same s9 t1) upd_same (by walk_at "at") hF ?_
          walk_at "rd"
          exact q _ _ _ _ _ _ _ _ _ S' kp' (fun i => by have := hx i; omega) (sLow hF (same_new ht))
        · rw [g] at g2
          cases g2
    have e1 := same_new (o := .tup [.str "refused", .str "letter"]) hF1
    have S1 := st_same S e1
    have hr1 := S1.hr w
    unfold i2_law
    walk_at "rd"
    refine g_ixL (sqL_of hF S1.hR) (at2 (fun i => .ref (r i)) w) ?_
    walk_at "rd"
    refine ⟨_, hF, b w, r w, ys w, rfl, S1.hr w, by have := hx w; have := hlen w; omega, fun u hu H hF => ?_⟩
    walk_at "rd"
    refine g_in (.inl (sqL_of hF upd_same)) rfl (flat_ints _) ?_
    rw [inV_ints]
    have e2 := e1.trans (same_new (o := .lst ((due (b w) (ys w).length).map V.int)) hu)
    have S2 := st_same S e2
    walk_at "rd"
    refine w_dec (fun h2 => ?_) (fun h2 => ?_)
    · rw [hlen w] at h2
      obtain ⟨c0, c1, c2, c3⟩ := got_due h2
      obtain ⟨v, dv, g1, g2, g3⟩ := ths_at (S2.tx w) c1
      obtain ⟨v', dv', g1', g2', g3'⟩ := ths_at (S2.ty w) (show x.toNat < (ys w).length by have := hlen w; omega)
      have e : dv' = dv := Option.some.inj (g2'.symm.trans g2)
      subst e
      walk_at "rd"
      refine g_ixL (sqL_of hF S2.hR) (at2 (fun i => .ref (r i)) w) ?_
      walk_at "rd"
      refine g_ixL (sqL_of hF (S2.hr w)) (atI_of c0 g1') ?_
      walk_at "rd"
      have s9 := same_new (o := .tup [.str "told", v']) hF1
      exact fin _ H _ (e2.trans s9) hF (.inr ⟨v', v, dv', c3 v g1, th_same s9 g3, th_same s9 g3', upd_same⟩)
    · rw [hlen w] at h2
      walk_at "rd"
      exact fin _ H _ e2 hF (.inl ⟨got_off h2, by walk_at "at"⟩)
theorem i5_ok {K : PySem.W.Frag} {mg : Str → Option Value} {a : Ad} (T : Txt K mg a) {F H Fs : Hp} {sc B PL R l : Addr} {p d dx r : Bool → Addr} {b : Bool → Nat} {xs ys : Bool → List V} {ds : Bool → List PyData} {os : List V} {o7 o8 o9 o10 o11 o12 o13 : Option V} {c : Int} {w : Bool} {nN nB nC : L2.St → Hp → Prop} {nR : VK}
    (S : St a F B PL R l p d dx r b xs ys ds ds os) (kp : Kp (Mu l p d r) Fs F) (hx : ∀ i, (xs i).length ≤ 900) (ho : os.length ≤ 900) (hF : Same F H)
    (q : ∀ F' H' os', St a F' B PL R l p d dx r b xs ys ds ds os' → Kp (Mu l p d r) Fs F' → os'.length ≤ os.length + 1 → Same F' H' → nN (lw sc B PL R l (some (.int (jOf w))) (some (.int c)) o7 o8 o9 o10 o11 o12 o13) H') :
    i5_law K a (Ends.mk nN nR nB nC) (lw sc B PL R l (some (.int (jOf w))) (some (.int c)) o7 o8 o9 o10 o11 o12 o13) H := by
  unfold i5_law
  walk_at "rd"
  refine g_ixL (sqL_of hF S.hPL) (at2 (fun i => .ref (p i)) w) ?_
  walk_at "rd"
  refine g_ixL (sqL_of hF S.hB) (at2 (fun i => .int (b i : Nat)) w) ?_
  walk_at "rd"
  refine g_ixL (sqL_of hF S.hR) (at2 (fun i => .ref (r i)) w) ?_
  walk_at "rd"
  refine ⟨F, hF, p w, dx w, d w, r w, l, b w, _, xs w, ys w, os, ds w, rfl, S.P w, S.hb w, S.hr w, S.tx w, S.ty w, hx w, S.hl, ho, S.nl w, fun F1 os1 g H hF => ?_⟩
  walk_at "rd"
  exact q F1 _ os1 (st_grow S g) (kp_grow kp g (.inl rfl)) g.few hF
theorem rd_law {K : PySem.W.Frag} {mg : Str → Option Value} {a : Ad} (T : Txt K mg a) {vs : List V} {H : Hp} {Q : VK} {E : XK} (h : sp_law K a vs H Q E) : t_law K a { nx := fun _ H' => Q .non H', rt := Q } (start N_law vs) H := by
  obtain ⟨F, hF, sc, ns, rfl, hs, hl, k⟩ := h
  unfold t_law
  walk_at "rd"
  refine g_rg1 (by decide) (by decide) ?_
  refine lcp_range (m := 2) (fun i acc => ∃ bs : List Nat, acc = bs.map (fun n : Nat => V.int (n : Int)) ∧ bs.length = i ∧ ∀ x ∈ bs, x ≤ 50) hF (show 2 ≤ 1000 by decide) ⟨[], rfl, rfl, by intro x hx; cases hx⟩ ?_ ?_
  · rintro D i acc H Z N hD hi ⟨bs, rfl, hbl, hbs⟩ hlen hF hz hn
    have hi2 : i < 2 := hi
    walk_at "rd"
    refine ⟨_, hF, sc, _, ns, rfl, Same.seq (same_new hD) hs, by omega, fun H hF => ?_⟩
    walk_at "rd"
    refine ⟨_, hF, _, _, rfl, by omega, by omega, fun H hF => ?_⟩
    walk_at "rd"
    refine ⟨_, hF, sc, _, ns, rfl, Same.seq (Same.trans (same_new hD) (same_new hF1)) hs, by omega, fun H hF => ?_⟩
    walk_at "rd"
    obtain ⟨x1, hx1, e1⟩ := menuI [4, 21] (i := cell ns (0 + (i : Nat)) / 64 % 2) (by omega) (by show _ < (2 : Int); omega)
    refine g_ixL (sqL_of hF upd_same) e1 ?_
    have hx1 : 4 ≤ x1 ∧ x1 ≤ 21 := by
      simp only [List.mem_cons, List.not_mem_nil, or_false] at hx1
      omega
    walk_at "rd"
    have y1 := Int.emod_nonneg (mixed (cell ns (0 + (i : Nat))) (0 + (i : Nat))) (show x1 ≠ 0 by omega)
    have y2 := Int.emod_lt_of_pos (mixed (cell ns (0 + (i : Nat))) (0 + (i : Nat))) (show 0 < x1 by omega)
    obtain ⟨n, hn⟩ := Int.eq_ofNat_of_zero_le y1
    rw [hn]
    refine hz _ _ (sLow hF (same_new hF1)) ⟨bs ++ [n], ?_, ?_, ?_⟩
    · rw [List.map_append]
      rfl
    · rw [List.length_append, hbl]
      rfl
    · intro x hx
      rcases List.mem_append.mp hx with z | z
      · exact hbs x z
      · have := List.mem_singleton.mp z
        omega
  rintro B acc H hB ⟨bs, rfl, hbl, hbs⟩ hlen hF
  obtain ⟨b0, b1, rfl⟩ : ∃ b0 b1, bs = [b0, b1] := by
    match bs, hbl with
    | [b0, b1], _ => exact ⟨b0, b1, rfl⟩
  have hb0 := hbs b0 (by simp)
  have hb1 := hbs b1 (by simp)
  walk_at "rd"
  refine g_ixL (v := .int ((b0 : Nat) : Int)) (sqL_of hF upd_same) rfl ?_
  walk_at "rd"
  have e1 := same_new (o := .lst ([b0, b1].map (fun n : Nat => V.int (n : Int)))) hB
  have mB : Nn F B := hB
  have hB1 : (upd F B (.lst ([b0, b1].map (fun n : Nat => V.int (n : Int))))) B = some (.lst ([b0, b1].map (fun n : Nat => V.int (n : Int)))) := upd_same
  generalize upd F B (.lst ([b0, b1].map (fun n : Nat => V.int (n : Int)))) = F1 at *
  refine g_mk hF fun p0 dx0 hp0 hdx0 ne0 => ⟨p0, b0, dx0, rfl, upd_same, fun d0 hd0 H hF => ⟨rfl, ?_⟩⟩
  obtain ⟨e2, P0, md0⟩ := post_new (a := a) (b := b0) hp0 hdx0 ne0 hd0
  generalize upd (upd (upd (upd F1 dx0 _) p0 _) d0 _) p0 _ = F2 at *
  have hB2 := e2 _ _ hB1
  walk_at "rd"
  refine g_ixL (v := .int ((b1 : Nat) : Int)) (sqL_of hF hB2) rfl ?_
  walk_at "rd"
  refine g_mk hF fun q1 dx1 hp1 hdx1 ne1 => ⟨q1, b1, dx1, rfl, upd_same, fun d1 hd1 H hF => ⟨rfl, ?_⟩⟩
  obtain ⟨e3, P1, md1⟩ := post_new (a := a) (b := b1) hp1 hdx1 ne1 hd1
  generalize upd (upd (upd (upd F2 dx1 _) q1 _) d1 _) q1 _ = F3 at *
  have hB3 := e3 _ _ hB2
  walk_at "rd"
  rename_i PL HPL nPL r0 Hr0 nr0 r1 Hr1 nr1 R HR nR
  obtain ⟨e8, S, mr0, mr1, ml⟩ := st_start hB3 (post_same P0 e3) P1 (ne_of_none P0.hp hp1) (ne_of_none P0.hd md1) hb0 hb1 nPL nr0 nr1 nR hF1
  generalize upd (upd (upd (upd (upd F3 PL _) r0 _) r1 _) R _) p1 _ = F8 at *
  have e02 : Same F F2 := e1.trans e2
  have e03 : Same F F3 := e02.trans e3
  have e01 : Same F F8 := e03.trans e8
  have hm : ∀ x, Mu p1 (two p0 q1) (two d0 d1) (two r0 r1) x → Nn F x := by
    rintro x (rfl | ⟨i, rfl | rfl | rfl⟩)
    · exact sFr e03 ml
    · cases i
      · exact sFr e1 hp0
      · exact sFr e02 hp1
    · cases i
      · exact sFr e1 md0
      · exact sFr e02 md1
    · cases i
      · exact sFr e03 mr0
      · exact sFr e03 mr1
  refine g_slL hF (Same.seq e01 hs) fun s H hs1 hF => ?_
  have e12 := same_new (o := .lst (cutV (ns.map V.int) (some 2) (some 42))) hs1
  have S2 := st_same S e12
  walk_at "rd"
  generalize hFs : upd F8 s (.lst (cutV (ns.map V.int) (some 2) (some 42))) = Fs at *
  have hsm : ¬ Mu p1 (two p0 q1) (two d0 d1) (two r0 r1) s := fun m => by
    obtain ⟨o, h⟩ : ∃ o, F8 s = some o := by
      rcases m with rfl | ⟨i, rfl | rfl | rfl⟩
      · exact ⟨_, S.hl⟩
      · exact ⟨_, (S.P i).hp⟩
      · exact ⟨_, (S.P i).hd⟩
      · exact ⟨_, S.hr i⟩
    have h2 : F8 s = none := hs1
    rw [h2] at h
    cases h
  have hsl : Fs s = some (.lst (cutV (ns.map V.int) (some 2) (some 42))) := by rw [← hFs, upd_same]
  refine lp_list (F := Fs) (xs := cutV (ns.map V.int) (some 2) (some 42)) (fun i σ F => ∃ xs ys ds os o1 o6 o7 o8 o9 o10 o11 o12 o13, σ = lw sc B PL R p1 o1 o6 o7 o8 o9 o10 o11 o12 o13 ∧ St a F B PL R p1 (two p0 q1) (two d0 d1) (two dx0 dx1) (two r0 r1) (two b0 b1) xs ys ds ds os ∧ Kp (Mu p1 (two p0 q1) (two d0 d1) (two r0 r1)) Fs F ∧ (∀ j, (xs j).length ≤ i) ∧ os.length ≤ 2 * i)
    hF ⟨_, _, _, _, _, _, _, _, _, _, _, _, _, rfl, S2, kp_refl, fun _ => Nat.le_refl _, Nat.le_refl _⟩ ?_ ?_ ?_
  · rintro i σ F hi ⟨xs, ys, ds, os, o1, o6, o7, o8, o9, o10, o11, o12, o13, rfl, S, kp, hx, ho⟩
    exact sqL_of (fun _ _ z => z) (kp _ _ hsl hsm)
  · rintro i x σ F H hi ⟨xs, ys, ds, os, o1, o6, o7, o8, o9, o10, o11, o12, o13, rfl, S, kp, hx, ho⟩ hF
    have hi2 : i < 64 := by
      have := (List.getElem?_eq_some_iff.mp hi).1
      have h9 : (cutV (ns.map V.int) (some 2) (some 42)).length ≤ ns.length := by
        have := cutV_len (xs := ns.map V.int) (lo := some 2) (hi := some 42)
        rw [List.length_map] at this
        exact this
      omega
    obtain ⟨c, rfl⟩ := cutV_int (List.mem_of_getElem? hi)
    obtain ⟨w, hw⟩ := jOf_of (j := c / 2 % 2) (by omega) (by omega)
    walk_at "rd"
    unfold b2_law
    walk_at "rd"
    rw [hw]
    refine i4_ok T S kp (n := i) (by omega) hx hF fun F1 H xs1 ys1 ds1 o8 o9 o10 o11 S1 kp1 hx1 hF => ?_
    walk_at "rd"
    refine g_rg1 (by decide) (by decide) ?_
    refine lp_range (n := 2) (fun j σ F => ∃ os o1, σ = lw sc B PL R p1 o1 (some (.int c)) (some (.int (jOf w))) o8 o9 o10 o11 o12 o13 ∧ St a F B PL R p1 (two p0 q1) (two d0 d1) (two dx0 dx1) (two r0 r1) (two b0 b1) xs1 ys1 ds1 ds1 os ∧ Kp (Mu p1 (two p0 q1) (two d0 d1) (two r0 r1)) Fs F ∧ os.length ≤ 2 * i + j)
      hF ⟨os, _, rfl, S1, kp1, by omega⟩ ?_ ?_
    · rintro j σ F H hj ⟨os, o1, rfl, S, kp, ho⟩ hF
      obtain ⟨w2, hw2⟩ := jOf_of (j := 0 + (j : Int)) (by omega) (by omega)
      walk_at "rd"
      unfold b1_law
      rw [hw2]
      refine i5_ok T S kp (fun i => by have := hx1 i; omega) (by omega) hF fun F1 H os' S kp ho2 hF => ?_
      exact ⟨_, hF, os', _, rfl, S, kp, by omega⟩
    · rintro σ F H ⟨os, o1, rfl, S, kp, ho⟩ hF
      exact ⟨_, hF, _, _, _, _, _, _, _, _, _, _, _, _, _, rfl, S, kp, hx1, by omega⟩
  · rintro σ F9 H ⟨xs, ys, ds, os, o1, o6, o7, o8, o9, o10, o11, o12, o13, rfl, S, kp, hx, ho⟩ hF
    have e09 : Same F F9 := kp_low kp (e01.trans e12) hm
    walk_at "rd"
    refine ⟨_, hF, sc, 1, ns, rfl, Same.seq (((e09.trans (same_new (by assumption))).trans (same_new (by assumption))).trans (same_new (by assumption))) hs, by decide, fun H hF => ?_⟩
    walk_at "rd"
    refine g_menu hF upd_same (Int.emod_nonneg (cell ns 1 / 3) (by decide : (7 : Int) ≠ 0)) (Int.emod_lt_of_pos (cell ns 1 / 3) (by decide : (0 : Int) < 7)) fun v hv => ?_
    simp only [List.mem_cons, List.not_mem_nil, or_false] at hv
    walk_at "rd"
    have hgot : got b0 (xs false) v = none := by
      rcases hv with rfl | rfl | rfl | rfl | rfl | rfl | rfl
      · rfl
      · rfl
      · rfl
      · rfl
      · rfl
      · rfl
      · refine got_off fun z => ?_
        have := (got_due z).1
        omega
    obtain ⟨F10, hF, e90, hkd⟩ : ∃ F10, Same F10 H ∧ Same F9 F10 ∧ Kd F10 v := by
      refine ⟨_, hF, ?_, ?_⟩
      · exact ((same_new (by assumption)).trans (same_new (by assumption))).trans (same_new (by assumption))
      · rcases hv with rfl | rfl | rfl | rfl | rfl | rfl | rfl
        · exact .non
        · exact .bl _
        · exact .bl _
        · exact .str _
        · exact .lst (by walk_at "at")
        · exact .tup (by walk_at "at")
        · exact .int _
    have S9 := st_same S e90
    have hl9 := S9.hl
    unfold i6_law
    walk_at "rd"
    refine g_ixL (sqL_of hF S9.hPL) (v := .ref p0) rfl ?_
    walk_at "rd"
    refine ⟨F10, hF, p0, v, dx0, d0, b0, xs false, rfl, S9.P false, hkd, fun v2 g2 => ?_, fun g2 t ht H hF => ?_⟩
    · rw [hgot] at g2
      cases g2
    walk_at "rd"
    refine ref_eq (F := upd (upd F10 t (.tup [.str "refused", .str "letter"])) p1 (.tup [.str "refused", .str "letter"])) (by walk_at "at") upd_same (by decide +kernel) hF ?_
    have e91 := (same_new (o := .tup [.str "refused", .str "letter"]) ht).trans (same_new (o := .tup [.str "refused", .str "letter"]) hF1)
    have S10 := st_same S9 e91
    generalize upd (upd F10 t _) p1 _ = F11 at *
    have hl10 := S10.hl
    walk_at "rd"
    refine lcp_list (fun i acc => acc = []) hF (sqL_of (fun _ _ z => z) S10.hl) (by have := cutV_len (xs := ns.map V.int) (lo := some 2) (hi := some 42); rw [List.length_map] at this; omega) rfl ?_ ?_
    · rintro D i o acc H Z N hD hi rfl _ hF hz hn
      obtain ⟨t, f, c, m, b, rfl, h1, h2, h3, -⟩ := S10.old o (List.mem_of_getElem? hi)
      have e92 := same_new (o := .lst []) hD
      have k1 := e92 _ _ h1
      have k2 := e92 _ _ h2
      have k3 := e92 _ _ h3
      walk_at "rd"
      refine g_ixT (sqT_of hF k1) (v := .ref f) rfl ?_
      walk_at "rd"
      refine g_ixT (sqT_of hF k1) (v := .ref c) rfl ?_
      refine g_neSame (d := .list ((due b m).map PyData.int ++ [.str "more"])) (Dp.lst (sqL_of hF k2) (dpa_app (dpa_ints _) (.cons (.str _) .nil))) (Dp.lst (sqL_of hF k3) (dpa_app (dpa_ints _) (.cons (.str _) .nil))) (more_sh _) ?_
      walk_at "rd"
      exact hn _ hF rfl
    · rintro D acc H hD rfl _ hF
      walk_at "rd"
      refine g_eqSame (d := .list []) (Dp.lst (sqL_of hF (by walk_at "at")) .nil) (Dp.lst (sqL_of hF upd_same) .nil) (by decide +kernel) ?_
      walk_at "rd"
      exact k _ (e09.trans (e90.trans e91)) _ (sLow hF ((same_new hD).trans (same_new hF1)))

section
variable {P : Program} {w : World} {K : PySem.W.Frag} {mg : Str → Option Value} {base : Heap} {a : Ad}
theorem ok_is_whole {fd : FuncData} (F : Fun K "is_whole" "is_whole" s_is_whole a.f_is_whole fd) (T : Txt K mg a)  : FnOk P w K mg base CX0 1 a.f_is_whole fd ["thing"] (sp_is_whole K a) := by
  refine F.ok (k := 0) sc_is_whole (fun vs H Q E h => ?_) (fun cdv A outer s H vs Q E hr h => ⟨t_is_whole K a, ?_, rd_is_whole T h⟩)
  · first | (obtain ⟨_, _, rfl, _⟩ := h; rfl) | (obtain ⟨_, _, _, rfl, _⟩ := h; rfl) | (obtain ⟨_, _, _, _, rfl, _⟩ := h; rfl) | (obtain ⟨_, _, _, _, _, rfl, _⟩ := h; rfl) | (obtain ⟨_, _, _, _, _, _, rfl, _⟩ := h; rfl) | (obtain ⟨_, _, _, _, _, _, _, rfl, _⟩ := h; rfl) | (obtain ⟨_, _, _, _, _, _, _, _, rfl, _⟩ := h; rfl) | (obtain ⟨_, _, _, _, _, _, _, _, _, rfl, _⟩ := h; rfl) | (obtain ⟨_, _, _, _, _, _, _, _, _, _, rfl, _⟩ := h; rfl) | (obtain ⟨_, _, _, _, _, _, _, _, _, _, _, rfl, _⟩ := h; rfl) | (obtain ⟨_, _, _, _, _, _, _, _, _, _, _, _, rfl, _⟩ := h; rfl) | (obtain ⟨_, _, _, _, _, _, _, _, _, _, _, _, _, rfl, _⟩ := h; rfl)
  · exact pss_one (ps_ret (pe_cmpR op_isTyB (pe_callTy call_type1 (by rfl) T.n_type (by decide +kernel) (pa_cons (pv 0) (pa_nil))) (pe_bltn (v := .ty "int") rfl T.n_int (by decide +kernel) rfl) (nomark _)))
theorem ok_Post_init {fd : FuncData} (F : Fun K "__init__" "Post.__init__" s_Post_init a.f_Post_init fd) (T : Txt K mg a)  : FnOk P w K mg base CX0 1 a.f_Post_init fd ["self", "bound"] (sp_Post_init K a) := by
  refine F.ok (k := 0) sc_Post_init (fun vs H Q E h => ?_) (fun cdv A outer s H vs Q E hr h => ⟨t_Post_init K a, ?_, rd_Post_init T h⟩)
  · first | (obtain ⟨_, _, rfl, _⟩ := h; rfl) | (obtain ⟨_, _, _, rfl, _⟩ := h; rfl) | (obtain ⟨_, _, _, _, rfl, _⟩ := h; rfl) | (obtain ⟨_, _, _, _, _, rfl, _⟩ := h; rfl) | (obtain ⟨_, _, _, _, _, _, rfl, _⟩ := h; rfl) | (obtain ⟨_, _, _, _, _, _, _, rfl, _⟩ := h; rfl) | (obtain ⟨_, _, _, _, _, _, _, _, rfl, _⟩ := h; rfl) | (obtain ⟨_, _, _, _, _, _, _, _, _, rfl, _⟩ := h; rfl) | (obtain ⟨_, _, _, _, _, _, _, _, _, _, rfl, _⟩ := h; rfl) | (obtain ⟨_, _, _, _, _, _, _, _, _, _, _, rfl, _⟩ := h; rfl) | (obtain ⟨_, _, _, _, _, _, _, _, _, _, _, _, rfl, _⟩ := h; rfl) | (obtain ⟨_, _, _, _, _, _, _, _, _, _, _, _, _, rfl, _⟩ := h; rfl)
  · exact pss_cons (ps_fld (pv 0) (pv 1) rfl) (pss_cons (ps_fld (pv 0) (pe_int) rfl) (pss_one (ps_fld (pv 0) (pe_dnewK) rfl)))
theorem ok_Post_posted {fd : FuncData} (F : Fun K "posted" "Post.posted" s_Post_posted a.f_Post_posted fd) (T : Txt K mg a)  : FnOk P w K mg base CX0 1 a.f_Post_posted fd ["self", "thing"] (sp_Post_posted K a) := by
  refine F.ok (k := 0) sc_Post_posted (fun vs H Q E h => ?_) (fun cdv A outer s H vs Q E hr h => ⟨t_Post_posted K a, ?_, rd_Post_posted T h⟩)
  · first | (obtain ⟨_, _, rfl, _⟩ := h; rfl) | (obtain ⟨_, _, _, rfl, _⟩ := h; rfl) | (obtain ⟨_, _, _, _, rfl, _⟩ := h; rfl) | (obtain ⟨_, _, _, _, _, rfl, _⟩ := h; rfl) | (obtain ⟨_, _, _, _, _, _, rfl, _⟩ := h; rfl) | (obtain ⟨_, _, _, _, _, _, _, rfl, _⟩ := h; rfl) | (obtain ⟨_, _, _, _, _, _, _, _, rfl, _⟩ := h; rfl) | (obtain ⟨_, _, _, _, _, _, _, _, _, rfl, _⟩ := h; rfl) | (obtain ⟨_, _, _, _, _, _, _, _, _, _, rfl, _⟩ := h; rfl) | (obtain ⟨_, _, _, _, _, _, _, _, _, _, _, rfl, _⟩ := h; rfl) | (obtain ⟨_, _, _, _, _, _, _, _, _, _, _, _, rfl, _⟩ := h; rfl) | (obtain ⟨_, _, _, _, _, _, _, _, _, _, _, _, _, rfl, _⟩ := h; rfl)
  · exact pss_cons (ps_set (i := 2) sc_Post_posted.nd rfl (Or.inl rfl) (pe_fld (pv 0) rfl)) (pss_cons (ps_dput (hu_of hr) (pe_fld (pv 0) rfl) (pv 2) (pv 1) rfl) (pss_cons (ps_fld (pv 0) (pe_op op_add (pv 2) (pe_int)) rfl) (pss_cons (ps_expr (pe_dpop2 (pe_fld (pv 0) rfl) (pe_op op_sub (pe_op op_sub (pv 2) (pe_fld (pv 0) rfl)) (pe_int)) (pe_non) ⟨rfl, rfl, rfl, rfl⟩)) (pss_one (ps_ret (pv 2))))))
theorem ok_Post_there {fd : FuncData} (F : Fun K "there" "Post.there" s_Post_there a.f_Post_there fd) (T : Txt K mg a)  : FnOk P w K mg base CX0 1 a.f_Post_there fd ["self"] (sp_Post_there K a) := by
  refine F.ok (k := 0) sc_Post_there (fun vs H Q E h => ?_) (fun cdv A outer s H vs Q E hr h => ⟨t_Post_there K a, ?_, rd_Post_there T h⟩)
  · first | (obtain ⟨_, _, rfl, _⟩ := h; rfl) | (obtain ⟨_, _, _, rfl, _⟩ := h; rfl) | (obtain ⟨_, _, _, _, rfl, _⟩ := h; rfl) | (obtain ⟨_, _, _, _, _, rfl, _⟩ := h; rfl) | (obtain ⟨_, _, _, _, _, _, rfl, _⟩ := h; rfl) | (obtain ⟨_, _, _, _, _, _, _, rfl, _⟩ := h; rfl) | (obtain ⟨_, _, _, _, _, _, _, _, rfl, _⟩ := h; rfl) | (obtain ⟨_, _, _, _, _, _, _, _, _, rfl, _⟩ := h; rfl) | (obtain ⟨_, _, _, _, _, _, _, _, _, _, rfl, _⟩ := h; rfl) | (obtain ⟨_, _, _, _, _, _, _, _, _, _, _, rfl, _⟩ := h; rfl) | (obtain ⟨_, _, _, _, _, _, _, _, _, _, _, _, rfl, _⟩ := h; rfl) | (obtain ⟨_, _, _, _, _, _, _, _, _, _, _, _, _, rfl, _⟩ := h; rfl)
  · exact pss_one (ps_ret (pe_callB (call_sortedDI rfl) (by rfl) T.n_sorted (by decide +kernel) (pa_cons (pe_fld (pv 0) rfl) (pa_nil))))
theorem ok_Post_taken {fd fd_is_whole : FuncData} (F : Fun K "taken" "Post.taken" s_Post_taken a.f_Post_taken fd) (T : Txt K mg a) (G_is_whole : FnOk P w K mg base CX0 1 a.f_is_whole fd_is_whole ["thing"] (sp_is_whole K a)) (B_is_whole : Binds K fd_is_whole ["thing"] []) : FnOk P w K mg base (L2N.CX P w) 2 a.f_Post_taken fd ["self", "number"] (sp_Post_taken K a) := by
  refine Rp.okN (k := 1) F sc_Post_taken (fun vs H Q E h => ?_) (fun cdv A outer s H vs Q E hr h => ⟨t_Post_taken K a E, ?_, rd_Post_taken T h⟩)
  · first | (obtain ⟨_, _, rfl, _⟩ := h; rfl) | (obtain ⟨_, _, _, rfl, _⟩ := h; rfl) | (obtain ⟨_, _, _, _, rfl, _⟩ := h; rfl) | (obtain ⟨_, _, _, _, _, rfl, _⟩ := h; rfl) | (obtain ⟨_, _, _, _, _, _, rfl, _⟩ := h; rfl) | (obtain ⟨_, _, _, _, _, _, _, rfl, _⟩ := h; rfl) | (obtain ⟨_, _, _, _, _, _, _, _, rfl, _⟩ := h; rfl) | (obtain ⟨_, _, _, _, _, _, _, _, _, rfl, _⟩ := h; rfl) | (obtain ⟨_, _, _, _, _, _, _, _, _, _, rfl, _⟩ := h; rfl) | (obtain ⟨_, _, _, _, _, _, _, _, _, _, _, rfl, _⟩ := h; rfl) | (obtain ⟨_, _, _, _, _, _, _, _, _, _, _, _, rfl, _⟩ := h; rfl) | (obtain ⟨_, _, _, _, _, _, _, _, _, _, _, _, _, rfl, _⟩ := h; rfl)
  · exact pss_cons (ps_if (PW.pt (pw_or (pt_not (pt_val (pe_call G_is_whole (hr.mono (by decide)) rfl T.g_is_whole T.k_is_whole B_is_whole .nil pass0 (pa_cons (pv 1) (pa_nil))))) (pw_or1 (pt_cmp (pc_dnotin (hu_of hr) (pv 1) (pe_fld (pv 0) rfl)))))) (pss_one (L2N.ps_raise rfl (L2N.takes_of rfl rfl rfl rfl) (L2N.pmk_own PySem.F.excBase_ValueError T.x_NoLetter T.g_NoLetter T.k_NoLetter (raises_own T.b_NoLetter T.t_NoLetter) (by exact rfl)))) (pss_nil)) (pss_one (ps_ret (pe_dget (hu_of hr) (pe_fld (pv 0) rfl) (pv 1) (fun _ _ => rfl))))
theorem ok_l_at {fd : FuncData} (F : Fun K "_law_at" "_law_at" s_l_at a.f_l_at fd) (T : Txt K mg a)  : FnOk P w K mg base CX0 1 a.f_l_at fd ["_law_script", "_law_k"] (sp_l_at K a) := by
  refine F.ok (k := 0) sc_l_at (fun vs H Q E h => ?_) (fun cdv A outer s H vs Q E hr h => ⟨t_l_at K a, ?_, rd_l_at T h⟩)
  · first | (obtain ⟨_, _, rfl, _⟩ := h; rfl) | (obtain ⟨_, _, _, rfl, _⟩ := h; rfl) | (obtain ⟨_, _, _, _, rfl, _⟩ := h; rfl) | (obtain ⟨_, _, _, _, _, rfl, _⟩ := h; rfl) | (obtain ⟨_, _, _, _, _, _, rfl, _⟩ := h; rfl) | (obtain ⟨_, _, _, _, _, _, _, rfl, _⟩ := h; rfl) | (obtain ⟨_, _, _, _, _, _, _, _, rfl, _⟩ := h; rfl) | (obtain ⟨_, _, _, _, _, _, _, _, _, rfl, _⟩ := h; rfl) | (obtain ⟨_, _, _, _, _, _, _, _, _, _, rfl, _⟩ := h; rfl) | (obtain ⟨_, _, _, _, _, _, _, _, _, _, _, rfl, _⟩ := h; rfl) | (obtain ⟨_, _, _, _, _, _, _, _, _, _, _, _, rfl, _⟩ := h; rfl) | (obtain ⟨_, _, _, _, _, _, _, _, _, _, _, _, _, rfl, _⟩ := h; rfl)
  · exact pss_cons (ps_if (pt_cmpR op_lt (pv 1) (pe_callB Rp.call_lenA (by rfl) T.n_len (by decide +kernel) (pa_cons (pv 0) (pa_nil))) (nomark _)) (pss_one (ps_ret (pe_ix ix_list (pv 0) (pv 1) (fun _ _ => rfl)))) (pss_nil)) (pss_one (ps_ret (pe_int)))
theorem ok_l_mixed {fd : FuncData} (F : Fun K "_law_mixed" "_law_mixed" s_l_mixed a.f_l_mixed fd) (T : Txt K mg a)  : FnOk P w K mg base CX0 1 a.f_l_mixed fd ["_law_cell", "_law_k"] (sp_l_mixed K a) := by
  refine F.ok (k := 0) sc_l_mixed (fun vs H Q E h => ?_) (fun cdv A outer s H vs Q E hr h => ⟨t_l_mixed K a, ?_, rd_l_mixed T h⟩)
  · first | (obtain ⟨_, _, rfl, _⟩ := h; rfl) | (obtain ⟨_, _, _, rfl, _⟩ := h; rfl) | (obtain ⟨_, _, _, _, rfl, _⟩ := h; rfl) | (obtain ⟨_, _, _, _, _, rfl, _⟩ := h; rfl) | (obtain ⟨_, _, _, _, _, _, rfl, _⟩ := h; rfl) | (obtain ⟨_, _, _, _, _, _, _, rfl, _⟩ := h; rfl) | (obtain ⟨_, _, _, _, _, _, _, _, rfl, _⟩ := h; rfl) | (obtain ⟨_, _, _, _, _, _, _, _, _, rfl, _⟩ := h; rfl) | (obtain ⟨_, _, _, _, _, _, _, _, _, _, rfl, _⟩ := h; rfl) | (obtain ⟨_, _, _, _, _, _, _, _, _, _, _, rfl, _⟩ := h; rfl) | (obtain ⟨_, _, _, _, _, _, _, _, _, _, _, _, rfl, _⟩ := h; rfl) | (obtain ⟨_, _, _, _, _, _, _, _, _, _, _, _, _, rfl, _⟩ := h; rfl)
  · exact pss_one (ps_ret (pe_op op_mod (pe_op op_add (pe_op op_mul (pv 0) (pe_int)) (pe_op op_mul (pe_op op_mul (pe_int) (pe_op op_add (pv 1) (pe_int))) (pe_op op_add (pv 1) (pe_int)))) (pe_int)))
theorem ok_l_whole {fd : FuncData} (F : Fun K "_law_whole" "_law_whole" s_l_whole a.f_l_whole fd) (T : Txt K mg a)  : FnOk P w K mg base CX0 1 a.f_l_whole fd ["_law_thing_here"] (sp_l_whole K a) := by
  refine F.ok (k := 0) sc_l_whole (fun vs H Q E h => ?_) (fun cdv A outer s H vs Q E hr h => ⟨t_l_whole K a, ?_, rd_l_whole T h⟩)
  · first | (obtain ⟨_, _, rfl, _⟩ := h; rfl) | (obtain ⟨_, _, _, rfl, _⟩ := h; rfl) | (obtain ⟨_, _, _, _, rfl, _⟩ := h; rfl) | (obtain ⟨_, _, _, _, _, rfl, _⟩ := h; rfl) | (obtain ⟨_, _, _, _, _, _, rfl, _⟩ := h; rfl) | (obtain ⟨_, _, _, _, _, _, _, rfl, _⟩ := h; rfl) | (obtain ⟨_, _, _, _, _, _, _, _, rfl, _⟩ := h; rfl) | (obtain ⟨_, _, _, _, _, _, _, _, _, rfl, _⟩ := h; rfl) | (obtain ⟨_, _, _, _, _, _, _, _, _, _, rfl, _⟩ := h; rfl) | (obtain ⟨_, _, _, _, _, _, _, _, _, _, _, rfl, _⟩ := h; rfl) | (obtain ⟨_, _, _, _, _, _, _, _, _, _, _, _, rfl, _⟩ := h; rfl) | (obtain ⟨_, _, _, _, _, _, _, _, _, _, _, _, _, rfl, _⟩ := h; rfl)
  · exact pss_one (ps_ret (pe_and (pe_callB call_isi (by rfl) T.n_isinstance (by decide +kernel) (pa_cons (pv 0) (pa_cons (pe_bltn (v := .ty "int") rfl T.n_int (by decide +kernel) rfl) pa_nil))) (pe_one (pe_not (pe_callB call_isi (by rfl) T.n_isinstance (by decide +kernel) (pa_cons (pv 0) (pa_cons (pe_bltn (v := .ty "bool") rfl T.n_bool (by decide +kernel) rfl) pa_nil)))))))
theorem ok_l_word {fd : FuncData} (F : Fun K "_law_word" "_law_word" s_l_word a.f_l_word fd) (T : Txt K mg a)  : ∀ (er : Er) (p : Addr × Obj), Zc (.ref (erA a er)) none p.2 → (∃ vs, p.2.data = .fields vs) → p.1 = p.1 → Rp.FnAt p P w K mg base 1 a.f_l_word fd ["_law_error"] (sp_l_word K a er p.1) := by
  rintro er ⟨eA, oe⟩ hz hf -
  refine Rp.okAt (p := (eA, oe)) (k := 0) F sc_l_word (fun vs H Q E h => ?_) (fun cdv A outer s H vs Q E hot1 hr h => ⟨t_l_word K a er eA, ?_, rd_l_word T h⟩)
  · first | (obtain ⟨_, _, rfl, _⟩ := h; rfl) | (obtain ⟨_, _, _, rfl, _⟩ := h; rfl) | (obtain ⟨_, _, _, _, rfl, _⟩ := h; rfl) | (obtain ⟨_, _, _, _, _, rfl, _⟩ := h; rfl) | (obtain ⟨_, _, _, _, _, _, rfl, _⟩ := h; rfl) | (obtain ⟨_, _, _, _, _, _, _, rfl, _⟩ := h; rfl) | (obtain ⟨_, _, _, _, _, _, _, _, rfl, _⟩ := h; rfl) | (obtain ⟨_, _, _, _, _, _, _, _, _, rfl, _⟩ := h; rfl) | (obtain ⟨_, _, _, _, _, _, _, _, _, _, rfl, _⟩ := h; rfl) | (obtain ⟨_, _, _, _, _, _, _, _, _, _, _, rfl, _⟩ := h; rfl) | (obtain ⟨_, _, _, _, _, _, _, _, _, _, _, _, rfl, _⟩ := h; rfl) | (obtain ⟨_, _, _, _, _, _, _, _, _, _, _, _, _, rfl, _⟩ := h; rfl)
  · have hp : (eA, oe) ∈ [(eA, oe)] := List.mem_cons_self
    have hot : L2H.HotC (L2H.cxH CX0 P w K mg base N_l_word "_law_word" (defScope s_l_word) a.f_l_word cdv A outer s H E (eA, oe)).nox := ⟨(eA, oe), hot1, hp⟩
    exact pss_cons (ps_set (i := 1) sc_l_word.nd rfl (Or.inl rfl) (pe_op Rp.op_strRep (pe_str) (pe_callTy call_int1 (by rfl) T.n_int (by decide +kernel) (pa_cons (pe_callB (Rp.call_isP (T.ec er) hz hf hp) (by rfl) T.n_isinstance (by decide +kernel) (pa_cons (pv 0) (pa_cons (pe_glob rfl T.g_NoLetter rfl) pa_nil))) (pa_nil))))) (pss_cons (L2H.ps_forH PassesOwn.never hot (Rp.pi_lstH (pe_lst (pa_cons (pe_callB (Rp.call_isP (T.ec er) hz hf hp) (by rfl) T.n_isinstance (by decide +kernel) (pa_cons (pv 0) (pa_cons (pe_glob rfl T.g_BadBounds rfl) pa_nil))) (pa_cons (pe_callB (Rp.call_isP (T.ec er) hz hf hp) (by rfl) T.n_isinstance (by decide +kernel) (pa_cons (pv 0) (pa_cons (pe_glob rfl T.g_BadRing rfl) pa_nil))) (pa_cons (pe_callB (Rp.call_isP (T.ec er) hz hf hp) (by rfl) T.n_isinstance (by decide +kernel) (pa_cons (pv 0) (pa_cons (pe_glob rfl T.g_BadTexts rfl) pa_nil))) (pa_nil)))))) (pg_name (i := 2) sc_l_word.nd rfl (Or.inl rfl)) (pss_one (ps_set (i := 1) sc_l_word.nd rfl (Or.inl rfl) (pe_op op_add_str (pv 1) (pe_op Rp.op_strRep (pe_str) (pe_callTy call_int1 (by rfl) T.n_int (by decide +kernel) (pa_cons (pv 2) (pa_nil)))))))) (pss_cons (L2H.ps_forH PassesOwn.never hot (Rp.pi_lstH (pe_lst (pa_cons (pe_callB (Rp.call_isP (T.ec er) hz hf hp) (by rfl) T.n_isinstance (by decide +kernel) (pa_cons (pv 0) (pa_cons (pe_glob rfl T.g_BadStep rfl) pa_nil))) (pa_cons (pe_callB (Rp.call_isP (T.ec er) hz hf hp) (by rfl) T.n_isinstance (by decide +kernel) (pa_cons (pv 0) (pa_cons (pe_glob rfl T.g_NotNow rfl) pa_nil))) (pa_cons (pe_callB (Rp.call_isP (T.ec er) hz hf hp) (by rfl) T.n_isinstance (by decide +kernel) (pa_cons (pv 0) (pa_cons (pe_glob rfl T.g_Safe rfl) pa_nil))) (pa_nil)))))) (pg_name (i := 2) sc_l_word.nd rfl (Or.inl rfl)) (pss_one (ps_set (i := 1) sc_l_word.nd rfl (Or.inl rfl) (pe_op op_add_str (pv 1) (pe_op Rp.op_strRep (pe_str) (pe_callTy call_int1 (by rfl) T.n_int (by decide +kernel) (pa_cons (pv 2) (pa_nil)))))))) (pss_one (ps_ret (pe_op Rp.op_strRep (pe_op op_add_str (pv 1) (pe_op Rp.op_strRep (pe_str) (pe_callTy call_int1 (by rfl) T.n_int (by decide +kernel) (pa_cons (pe_callB (Rp.call_isP (T.ec er) hz hf hp) (by rfl) T.n_isinstance (by decide +kernel) (pa_cons (pv 0) (pa_cons (pe_glob rfl T.g_NoLine rfl) pa_nil))) (pa_nil))))) (pe_callTy call_int1 (by rfl) T.n_int (by decide +kernel) (pa_cons (pe_callB (Rp.call_isP (T.ec er) hz hf hp) (by rfl) T.n_isinstance (by decide +kernel) (pa_cons (pv 0) (pa_cons (pe_bltn (v := .ty "ValueError") rfl T.n_ValueError (by decide +kernel) rfl) pa_nil))) (pa_nil))))))))
theorem ok_l_said {fd fd_Post_taken fd_l_word : FuncData} (F : Fun K "_law_said" "_law_said" s_l_said a.f_l_said fd) (T : Txt K mg a) (G_Post_taken : FnOk P w K mg base (L2N.CX P w) 2 a.f_Post_taken fd_Post_taken ["self", "number"] (sp_Post_taken K a)) (B_Post_taken : Binds K fd_Post_taken ["self", "number"] []) (G_l_word : ∀ (er : Er) (p : Addr × Obj), Zc (.ref (erA a er)) none p.2 → (∃ vs, p.2.data = .fields vs) → p.1 = p.1 → Rp.FnAt p P w K mg base 1 a.f_l_word fd_l_word ["_law_error"] (sp_l_word K a er p.1)) (B_l_word : Binds K fd_l_word ["_law_error"] []) : FnOk P w K mg base CX0 3 a.f_l_said fd ["_law_post", "_law_number"] (sp_l_said K a) := by
  refine F.ok (k := 2) sc_l_said (fun vs H Q E h => ?_) (fun cdv A outer s H vs Q E hr h => ⟨t_l_said K a, ?_, rd_l_said T h⟩)
  · first | (obtain ⟨_, _, rfl, _⟩ := h; rfl) | (obtain ⟨_, _, _, rfl, _⟩ := h; rfl) | (obtain ⟨_, _, _, _, rfl, _⟩ := h; rfl) | (obtain ⟨_, _, _, _, _, rfl, _⟩ := h; rfl) | (obtain ⟨_, _, _, _, _, _, rfl, _⟩ := h; rfl) | (obtain ⟨_, _, _, _, _, _, _, rfl, _⟩ := h; rfl) | (obtain ⟨_, _, _, _, _, _, _, _, rfl, _⟩ := h; rfl) | (obtain ⟨_, _, _, _, _, _, _, _, _, rfl, _⟩ := h; rfl) | (obtain ⟨_, _, _, _, _, _, _, _, _, _, rfl, _⟩ := h; rfl) | (obtain ⟨_, _, _, _, _, _, _, _, _, _, _, rfl, _⟩ := h; rfl) | (obtain ⟨_, _, _, _, _, _, _, _, _, _, _, _, rfl, _⟩ := h; rfl) | (obtain ⟨_, _, _, _, _, _, _, _, _, _, _, _, _, rfl, _⟩ := h; rfl)
  · exact pss_one (L2N.ps_try_as (i := 2) (tb := fun W => b1_l_said K a W) (ts := b2_l_said K a) (Wout := (fun _ _ _ _ => False)) rfl rfl sc_l_said.nd rfl rfl ⟨rfl, by decide, .inl T.g_PostError⟩ Rp.takes0N (fun W pn xe tk _ => pss_one (ps_ret (pe_tup (pa_cons (pe_str) (pa_cons (by exact (Rp.pe_methS (pv 0) T.c_Post T.mt_Post_taken G_Post_taken (hr.mono (by decide)) B_Post_taken (fun σ => L2N.passAt tk σ) (by exact (pa_cons (pv 1) (pa_nil))))) (pa_nil)))))) (fun eA oe eC eD0 pn hz hf => Rp.pss_ex (c := fun er => eC = Value.ref (erA a er) ∧ eD0 = none) (fun er hc => by obtain ⟨rfl, rfl⟩ := hc; exact pss_one (ps_ret (pe_tup (pa_cons (pe_str) (pa_cons (Rp.pe_callAt (G_l_word er (eA, oe) hz.zc hf rfl) (Rp.roomMark (L2H.roomH_of (hr.mono (by decide)))) List.mem_cons_self (Rp.hot_of hz hf) rfl T.g_l_word T.k_l_word B_l_word (pa_cons (pv 2) (pa_nil))) (pa_nil))))))))
theorem ok_l_thing {fd : FuncData} (F : Fun K "_law_thing" "_law_thing" s_l_thing a.f_l_thing fd) (T : Txt K mg a)  : FnOk P w K mg base CX0 1 a.f_l_thing fd ["_law_cell"] (sp_l_thing K a) := by
  refine F.ok (k := 0) sc_l_thing (fun vs H Q E h => ?_) (fun cdv A outer s H vs Q E hr h => ⟨t_l_thing K a, ?_, rd_l_thing T h⟩)
  · first | (obtain ⟨_, _, rfl, _⟩ := h; rfl) | (obtain ⟨_, _, _, rfl, _⟩ := h; rfl) | (obtain ⟨_, _, _, _, rfl, _⟩ := h; rfl) | (obtain ⟨_, _, _, _, _, rfl, _⟩ := h; rfl) | (obtain ⟨_, _, _, _, _, _, rfl, _⟩ := h; rfl) | (obtain ⟨_, _, _, _, _, _, _, rfl, _⟩ := h; rfl) | (obtain ⟨_, _, _, _, _, _, _, _, rfl, _⟩ := h; rfl) | (obtain ⟨_, _, _, _, _, _, _, _, _, rfl, _⟩ := h; rfl) | (obtain ⟨_, _, _, _, _, _, _, _, _, _, rfl, _⟩ := h; rfl) | (obtain ⟨_, _, _, _, _, _, _, _, _, _, _, rfl, _⟩ := h; rfl) | (obtain ⟨_, _, _, _, _, _, _, _, _, _, _, _, rfl, _⟩ := h; rfl) | (obtain ⟨_, _, _, _, _, _, _, _, _, _, _, _, _, rfl, _⟩ := h; rfl)
  · exact pss_one (ps_ret (pe_ix ix_list (pe_lst (pa_cons (pe_str) (pa_cons (pe_str) (pa_cons (pe_int) (pa_cons (pe_tup (pa_cons (pe_int) (pa_cons (pe_str) (pa_nil)))) (pa_cons (pe_tup (pa_cons (pe_int) (pa_cons (pe_str) (pa_nil)))) (pa_cons (pe_str) (pa_cons (pe_int) (pa_cons (pe_tup (pa_cons (pe_str) (pa_cons (pe_int) (pa_nil)))) (pa_nil)))))))))) (pe_op op_mod (pv 0) (pe_int)) (fun _ _ => rfl)))
theorem ok_l_due {fd : FuncData} (F : Fun K "_law_due" "_law_due" s_l_due a.f_l_due fd) (T : Txt K mg a)  : FnOk P w K mg base CX0 1 a.f_l_due fd ["_law_bound", "_law_things"] (sp_l_due K a) := by
  refine F.ok (k := 0) sc_l_due (fun vs H Q E h => ?_) (fun cdv A outer s H vs Q E hr h => ⟨t_l_due K a, ?_, rd_l_due T h⟩)
  · first | (obtain ⟨_, _, rfl, _⟩ := h; rfl) | (obtain ⟨_, _, _, rfl, _⟩ := h; rfl) | (obtain ⟨_, _, _, _, rfl, _⟩ := h; rfl) | (obtain ⟨_, _, _, _, _, rfl, _⟩ := h; rfl) | (obtain ⟨_, _, _, _, _, _, rfl, _⟩ := h; rfl) | (obtain ⟨_, _, _, _, _, _, _, rfl, _⟩ := h; rfl) | (obtain ⟨_, _, _, _, _, _, _, _, rfl, _⟩ := h; rfl) | (obtain ⟨_, _, _, _, _, _, _, _, _, rfl, _⟩ := h; rfl) | (obtain ⟨_, _, _, _, _, _, _, _, _, _, rfl, _⟩ := h; rfl) | (obtain ⟨_, _, _, _, _, _, _, _, _, _, _, rfl, _⟩ := h; rfl) | (obtain ⟨_, _, _, _, _, _, _, _, _, _, _, _, rfl, _⟩ := h; rfl) | (obtain ⟨_, _, _, _, _, _, _, _, _, _, _, _, _, rfl, _⟩ := h; rfl)
  · exact pss_one (ps_ret (pe_lc (own := [("_law_number", 2)]) rfl sc_l_due.nd (pi_range1 rfl T.n_range (pa_cons (pe_callB Rp.call_lenA (by rfl) T.n_len (by decide +kernel) (pa_cons (pv 1) (pa_nil))) (pa_nil))) (blkOk_by (own := [("_law_number", 2)]) (N := N_l_due) (sc := defScope s_l_due) (by decide +kernel)) (fun _ _ _ _ _ => pg_name (i := 2) sc_l_due.nd rfl (Or.inl rfl)) (fun _ _ _ _ _ => pts_one (pt_cmpR op_ge (pe_op op_add (pv 2) (pv 0)) (pe_op op_sub (pe_callB Rp.call_lenA (by rfl) T.n_len (by decide +kernel) (pa_cons (pv 1) (pa_nil))) (pe_int)) (nomark _))) (fun _ _ _ _ _ => pv 2)))
theorem ok_l_there {fd fd_Post_there fd_l_whole fd_l_due : FuncData} (F : Fun K "_law_there" "_law_there" s_l_there a.f_l_there fd) (T : Txt K mg a) (G_Post_there : FnOk P w K mg base CX0 1 a.f_Post_there fd_Post_there ["self"] (sp_Post_there K a)) (B_Post_there : Binds K fd_Post_there ["self"] []) (G_l_whole : FnOk P w K mg base CX0 1 a.f_l_whole fd_l_whole ["_law_thing_here"] (sp_l_whole K a)) (B_l_whole : Binds K fd_l_whole ["_law_thing_here"] []) (G_l_due : FnOk P w K mg base CX0 1 a.f_l_due fd_l_due ["_law_bound", "_law_things"] (sp_l_due K a)) (B_l_due : Binds K fd_l_due ["_law_bound", "_law_things"] []) : FnOk P w K mg base CX0 2 a.f_l_there fd ["_law_post", "_law_bound", "_law_things", "_law_olds"] (sp_l_there K a) := by
  refine F.ok (k := 1) sc_l_there (fun vs H Q E h => ?_) (fun cdv A outer s H vs Q E hr h => ⟨t_l_there K a, ?_, rd_l_there T h⟩)
  · first | (obtain ⟨_, _, rfl, _⟩ := h; rfl) | (obtain ⟨_, _, _, rfl, _⟩ := h; rfl) | (obtain ⟨_, _, _, _, rfl, _⟩ := h; rfl) | (obtain ⟨_, _, _, _, _, rfl, _⟩ := h; rfl) | (obtain ⟨_, _, _, _, _, _, rfl, _⟩ := h; rfl) | (obtain ⟨_, _, _, _, _, _, _, rfl, _⟩ := h; rfl) | (obtain ⟨_, _, _, _, _, _, _, _, rfl, _⟩ := h; rfl) | (obtain ⟨_, _, _, _, _, _, _, _, _, rfl, _⟩ := h; rfl) | (obtain ⟨_, _, _, _, _, _, _, _, _, _, rfl, _⟩ := h; rfl) | (obtain ⟨_, _, _, _, _, _, _, _, _, _, _, rfl, _⟩ := h; rfl) | (obtain ⟨_, _, _, _, _, _, _, _, _, _, _, _, rfl, _⟩ := h; rfl) | (obtain ⟨_, _, _, _, _, _, _, _, _, _, _, _, _, rfl, _⟩ := h; rfl)
  · exact pss_cons (ps_set (i := 4) sc_l_there.nd rfl (Or.inl rfl) (pe_meth0 (pv 0) T.c_Post T.mt_Post_there G_Post_there (hr.mono (by decide)) B_Post_there .nil pass0 )) (pss_cons (ps_if (PW.pt (pw_or (pt_not (pt_val (pe_callB call_isi (by rfl) T.n_isinstance (by decide +kernel) (pa_cons (pv 4) (pa_cons (pe_bltn (v := .ty "list") rfl T.n_list (by decide +kernel) rfl) pa_nil))))) (pw_or1 (pt_cmpR (op_neD hr.units) (pv 4) (pe_call G_l_due (hr.mono (by decide)) rfl T.g_l_due T.k_l_due B_l_due .nil pass0 (pa_cons (pv 1) (pa_cons (pv 2) (pa_nil)))) (nomark _))))) (pss_one (ps_ret (pe_bl))) (pss_nil)) (pss_cons (ps_if (pt_not (pt_val (pe_callB (cr_all rfl) (by rfl) T.n_all (by decide +kernel) (pa_cons (pe_lc (own := [("_law_number", 5)]) rfl sc_l_there.nd (pi_list (pv 4)) (blkOk_by (own := [("_law_number", 5)]) (N := N_l_there) (sc := defScope s_l_there) (by decide +kernel)) (fun _ _ _ _ _ => pg_name (i := 5) sc_l_there.nd rfl (Or.inl rfl)) (fun _ _ _ _ _ => pts_nil) (fun _ _ _ _ _ => pe_call G_l_whole (hr.mono (by decide)) rfl T.g_l_whole T.k_l_whole B_l_whole .nil pass0 (pa_cons (pv 5) (pa_nil)))) (pa_nil))))) (pss_one (ps_ret (pe_bl))) (pss_nil)) (pss_cons (ps_expr (pe_bm PySem.F.plainAttrs_list PySem.F.slot_list_append PySem.F.type_list_append mt_append (pv 4) (pa_cons (pe_str) (pa_nil)))) (pss_cons (ps_expr (pe_bm PySem.F.plainAttrs_list PySem.F.slot_list_append PySem.F.type_list_append mt_append (pv 3) (pa_cons (pe_tup (pa_cons (pv 4) (pa_cons (pe_callTy call_list_of (by rfl) T.n_list (by decide +kernel) (pa_cons (pv 4) (pa_nil))) (pa_nil)))) (pa_nil)))) (pss_one (ps_ret (pe_bl)))))))
theorem ok_l_stands {fd fd_l_said fd_l_due fd_l_there : FuncData} (F : Fun K "_law_stands" "_law_stands" s_l_stands a.f_l_stands fd) (T : Txt K mg a) (G_l_said : FnOk P w K mg base CX0 3 a.f_l_said fd_l_said ["_law_post", "_law_number"] (sp_l_said K a)) (B_l_said : Binds K fd_l_said ["_law_post", "_law_number"] []) (G_l_due : FnOk P w K mg base CX0 1 a.f_l_due fd_l_due ["_law_bound", "_law_things"] (sp_l_due K a)) (B_l_due : Binds K fd_l_due ["_law_bound", "_law_things"] []) (G_l_there : FnOk P w K mg base CX0 2 a.f_l_there fd_l_there ["_law_post", "_law_bound", "_law_things", "_law_olds"] (sp_l_there K a)) (B_l_there : Binds K fd_l_there ["_law_post", "_law_bound", "_law_things", "_law_olds"] []) : FnOk P w K mg base CX0 4 a.f_l_stands fd ["_law_post", "_law_bound", "_law_things", "_law_olds", "_law_way"] (sp_l_stands K a) := by
  refine F.ok (k := 3) sc_l_stands (fun vs H Q E h => ?_) (fun cdv A outer s H vs Q E hr h => ⟨t_l_stands K a, ?_, rd_l_stands T h⟩)
  · first | (obtain ⟨_, _, rfl, _⟩ := h; rfl) | (obtain ⟨_, _, _, rfl, _⟩ := h; rfl) | (obtain ⟨_, _, _, _, rfl, _⟩ := h; rfl) | (obtain ⟨_, _, _, _, _, rfl, _⟩ := h; rfl) | (obtain ⟨_, _, _, _, _, _, rfl, _⟩ := h; rfl) | (obtain ⟨_, _, _, _, _, _, _, rfl, _⟩ := h; rfl) | (obtain ⟨_, _, _, _, _, _, _, _, rfl, _⟩ := h; rfl) | (obtain ⟨_, _, _, _, _, _, _, _, _, rfl, _⟩ := h; rfl) | (obtain ⟨_, _, _, _, _, _, _, _, _, _, rfl, _⟩ := h; rfl) | (obtain ⟨_, _, _, _, _, _, _, _, _, _, _, rfl, _⟩ := h; rfl) | (obtain ⟨_, _, _, _, _, _, _, _, _, _, _, _, rfl, _⟩ := h; rfl) | (obtain ⟨_, _, _, _, _, _, _, _, _, _, _, _, _, rfl, _⟩ := h; rfl)
  · exact pss_cons (ps_if (pt_cmpR op_eq (pv 4) (pe_int) (nomark _)) (pss_one (ps_ret (pe_bl))) (pss_nil)) (pss_cons (ps_if (PW.pt (pw_and (pt_cmpR op_eq (pv 4) (pe_int) (nomark _)) (pw_and1 (pt_not (pt_val (pe_call G_l_there (hr.mono (by decide)) rfl T.g_l_there T.k_l_there B_l_there .nil pass0 (pa_cons (pv 0) (pa_cons (pv 1) (pa_cons (pv 2) (pa_cons (pv 3) (pa_nil))))))))))) (pss_one (ps_ret (pe_bl))) (pss_nil)) (pss_cons (ps_for PassesOwn.never rfl (pi_list (pe_call G_l_due (hr.mono (by decide)) rfl T.g_l_due T.k_l_due B_l_due .nil pass0 (pa_cons (pv 1) (pa_cons (pv 2) (pa_nil))))) (pg_name (i := 5) sc_l_stands.nd rfl (Or.inl rfl)) (pss_one (ps_if (pt_cmpR (op_neD hr.units) (pe_call G_l_said (hr.mono (by decide)) rfl T.g_l_said T.k_l_said B_l_said .nil pass0 (pa_cons (pv 0) (pa_cons (pv 5) (pa_nil)))) (pe_tup (pa_cons (pe_str) (pa_cons (pe_ix ix_list (pv 2) (pv 5) (fun _ _ => rfl)) (pa_nil)))) (nomark _)) (pss_one (ps_ret (pe_bl))) (pss_nil)))) (pss_cons (ps_if (pt_cmpR (op_neD hr.units) (pe_call G_l_said (hr.mono (by decide)) rfl T.g_l_said T.k_l_said B_l_said .nil pass0 (pa_cons (pv 0) (pa_cons (pe_callB Rp.call_lenA (by rfl) T.n_len (by decide +kernel) (pa_cons (pv 2) (pa_nil))) (pa_nil)))) (pe_tup (pa_cons (pe_str) (pa_cons (pe_str) (pa_nil)))) (nomark _)) (pss_one (ps_ret (pe_bl))) (pss_nil)) (pss_one (ps_ret (pe_or (pe_cmpR op_eq (pv 4) (pe_int) (nomark _)) (pe_one (pe_call G_l_there (hr.mono (by decide)) rfl T.g_l_there T.k_l_there B_l_there .nil pass0 (pa_cons (pv 0) (pa_cons (pv 1) (pa_cons (pv 2) (pa_cons (pv 3) (pa_nil)))))))))))))
theorem ok_law {fd fd_Post_init fd_Post_posted fd_l_at fd_l_mixed fd_l_whole fd_l_said fd_l_thing fd_l_due fd_l_stands : FuncData} (F : Fun K "law" "law" s_law a.f_law fd) (T : Txt K mg a) (G_Post_init : FnOk P w K mg base CX0 1 a.f_Post_init fd_Post_init ["self", "bound"] (sp_Post_init K a)) (B_Post_init : Binds K fd_Post_init ["self", "bound"] []) (G_Post_posted : FnOk P w K mg base CX0 1 a.f_Post_posted fd_Post_posted ["self", "thing"] (sp_Post_posted K a)) (B_Post_posted : Binds K fd_Post_posted ["self", "thing"] []) (G_l_at : FnOk P w K mg base CX0 1 a.f_l_at fd_l_at ["_law_script", "_law_k"] (sp_l_at K a)) (B_l_at : Binds K fd_l_at ["_law_script", "_law_k"] []) (G_l_mixed : FnOk P w K mg base CX0 1 a.f_l_mixed fd_l_mixed ["_law_cell", "_law_k"] (sp_l_mixed K a)) (B_l_mixed : Binds K fd_l_mixed ["_law_cell", "_law_k"] []) (G_l_whole : FnOk P w K mg base CX0 1 a.f_l_whole fd_l_whole ["_law_thing_here"] (sp_l_whole K a)) (B_l_whole : Binds K fd_l_whole ["_law_thing_here"] []) (G_l_said : FnOk P w K mg base CX0 3 a.f_l_said fd_l_said ["_law_post", "_law_number"] (sp_l_said K a)) (B_l_said : Binds K fd_l_said ["_law_post", "_law_number"] []) (G_l_thing : FnOk P w K mg base CX0 1 a.f_l_thing fd_l_thing ["_law_cell"] (sp_l_thing K a)) (B_l_thing : Binds K fd_l_thing ["_law_cell"] []) (G_l_due : FnOk P w K mg base CX0 1 a.f_l_due fd_l_due ["_law_bound", "_law_things"] (sp_l_due K a)) (B_l_due : Binds K fd_l_due ["_law_bound", "_law_things"] []) (G_l_stands : FnOk P w K mg base CX0 4 a.f_l_stands fd_l_stands ["_law_post", "_law_bound", "_law_things", "_law_olds", "_law_way"] (sp_l_stands K a)) (B_l_stands : Binds K fd_l_stands ["_law_post", "_law_bound", "_law_things", "_law_olds", "_law_way"] []) : FnOk P w K mg base CX0 5 a.f_law fd ["_law_script"] (sp_law K a) := by
  refine F.ok (k := 4) sc_law (fun vs H Q E h => ?_) (fun cdv A outer s H vs Q E hr h => ⟨t_law K a, ?_, rd_law T h⟩)
  · first | (obtain ⟨_, _, rfl, _⟩ := h; rfl) | (obtain ⟨_, _, _, rfl, _⟩ := h; rfl) | (obtain ⟨_, _, _, _, rfl, _⟩ := h; rfl) | (obtain ⟨_, _, _, _, _, rfl, _⟩ := h; rfl) | (obtain ⟨_, _, _, _, _, _, rfl, _⟩ := h; rfl) | (obtain ⟨_, _, _, _, _, _, _, rfl, _⟩ := h; rfl) | (obtain ⟨_, _, _, _, _, _, _, _, rfl, _⟩ := h; rfl) | (obtain ⟨_, _, _, _, _, _, _, _, _, rfl, _⟩ := h; rfl) | (obtain ⟨_, _, _, _, _, _, _, _, _, _, rfl, _⟩ := h; rfl) | (obtain ⟨_, _, _, _, _, _, _, _, _, _, _, rfl, _⟩ := h; rfl) | (obtain ⟨_, _, _, _, _, _, _, _, _, _, _, _, rfl, _⟩ := h; rfl) | (obtain ⟨_, _, _, _, _, _, _, _, _, _, _, _, _, rfl, _⟩ := h; rfl)
  · exact pss_cons (ps_setLc (i := 2) (own := [("_law_k", 1)]) rfl sc_law.nd rfl rfl (sw_true rfl rfl rfl (by decide +kernel)) (pi_range1 rfl T.n_range (pa_cons (pe_int) (pa_nil))) (blkOk_by (own := [("_law_k", 1)]) (N := N_law) (sc := defScope s_law) (by decide +kernel)) (fun _ _ _ _ _ => pg_name (i := 1) sc_law.nd rfl (Or.inl rfl)) (fun _ _ _ _ _ => pts_nil) (fun _ _ _ _ _ => pe_op op_mod (pe_call G_l_mixed (hr.mono (by decide)) rfl T.g_l_mixed T.k_l_mixed B_l_mixed .nil pass0 (pa_cons (pe_call G_l_at (hr.mono (by decide)) rfl T.g_l_at T.k_l_at B_l_at .nil pass0 (pa_cons (pv 0) (pa_cons (pv 1) (pa_nil)))) (pa_cons (pv 1) (pa_nil)))) (pe_ix ix_list (pe_lst (pa_cons (pe_int) (pa_cons (pe_int) (pa_nil)))) (pe_op op_mod (pe_op op_fdiv (pe_call G_l_at (hr.mono (by decide)) rfl T.g_l_at T.k_l_at B_l_at .nil pass0 (pa_cons (pv 0) (pa_cons (pv 1) (pa_nil)))) (pe_int)) (pe_int)) (fun _ _ => rfl)))) (pss_cons (ps_set (i := 3) sc_law.nd rfl (Or.inl rfl) (pe_lst (pa_cons (pe_make T.mk_Post G_Post_init (hr.mono (by decide)) rfl T.g_Post B_Post_init .nil pass0 (pa_cons (pe_ix ix_list (pv 2) (pe_int) (fun _ _ => rfl)) (pa_nil))) (pa_cons (pe_make T.mk_Post G_Post_init (hr.mono (by decide)) rfl T.g_Post B_Post_init .nil pass0 (pa_cons (pe_ix ix_list (pv 2) (pe_int) (fun _ _ => rfl)) (pa_nil))) (pa_nil))))) (pss_cons (ps_set (i := 4) sc_law.nd rfl (Or.inl rfl) (pe_lst (pa_cons (pe_lst (pa_nil)) (pa_cons (pe_lst (pa_nil)) (pa_nil))))) (pss_cons (ps_set (i := 5) sc_law.nd rfl (Or.inl rfl) (pe_lst (pa_nil))) (pss_cons (ps_for PassesOwn.never rfl (pi_list (pe_slice sl_list (pv 0) (po_some (pe_int)) (po_some (pe_int)))) (pg_name (i := 6) sc_law.nd rfl (Or.inl rfl)) (pss_cons (ps_set (i := 7) sc_law.nd rfl (Or.inl rfl) (pe_op op_mod (pe_op op_fdiv (pv 6) (pe_int)) (pe_int))) (pss_cons (ps_if (pt_cmpR op_eq (pe_op op_mod (pv 6) (pe_int)) (pe_int) (nomark _)) (pss_cons (ps_set (i := 8) sc_law.nd rfl (Or.inl rfl) (pe_meth (pe_ix ix_list (pv 3) (pv 7) (fun _ _ => rfl)) T.c_Post T.mt_Post_posted G_Post_posted (hr.mono (by decide)) B_Post_posted .nil pass0 (pa_cons (pe_call G_l_thing (hr.mono (by decide)) rfl T.g_l_thing T.k_l_thing B_l_thing .nil pass0 (pa_cons (pe_op op_fdiv (pv 6) (pe_int)) (pa_nil))) (pa_nil)))) (pss_cons (ps_if (PW.pt (pw_or (pt_not (pt_val (pe_call G_l_whole (hr.mono (by decide)) rfl T.g_l_whole T.k_l_whole B_l_whole .nil pass0 (pa_cons (pv 8) (pa_nil))))) (pw_or1 (pt_cmpR op_ne (pv 8) (pe_callB Rp.call_lenA (by rfl) T.n_len (by decide +kernel) (pa_cons (pe_ix ix_list (pv 4) (pv 7) (fun _ _ => rfl)) (pa_nil))) (nomark _))))) (pss_one (ps_ret (pe_bl))) (pss_nil)) (pss_one (ps_expr (pe_bm PySem.F.plainAttrs_list PySem.F.slot_list_append PySem.F.type_list_append mt_append (pe_ix ix_list (pv 4) (pv 7) (fun _ _ => rfl)) (pa_cons (pe_call G_l_thing (hr.mono (by decide)) rfl T.g_l_thing T.k_l_thing B_l_thing .nil pass0 (pa_cons (pe_op op_fdiv (pv 6) (pe_int)) (pa_nil))) (pa_nil))))))) (pss_cons (ps_set (i := 9) sc_law.nd rfl (Or.inl rfl) (pe_ix ix_list (pv 2) (pv 7) (fun _ _ => rfl))) (pss_cons (ps_set (i := 10) sc_law.nd rfl (Or.inl rfl) (pe_op op_add (pe_op op_sub (pe_op op_sub (pe_callB Rp.call_lenA (by rfl) T.n_len (by decide +kernel) (pa_cons (pe_ix ix_list (pv 4) (pv 7) (fun _ _ => rfl)) (pa_nil))) (pe_int)) (pv 9)) (pe_op op_mod (pe_op op_fdiv (pv 6) (pe_int)) (pe_op op_add (pv 9) (pe_int))))) (pss_cons (ps_set (i := 11) sc_law.nd rfl (Or.inl rfl) (pe_tup (pa_cons (pe_str) (pa_cons (pe_str) (pa_nil))))) (pss_cons (ps_if (pt_cmpR op_in_seq (pv 10) (pe_call G_l_due (hr.mono (by decide)) rfl T.g_l_due T.k_l_due B_l_due .nil pass0 (pa_cons (pv 9) (pa_cons (pe_ix ix_list (pv 4) (pv 7) (fun _ _ => rfl)) (pa_nil)))) (by rfl)) (pss_one (ps_set (i := 11) sc_law.nd rfl (Or.inl rfl) (pe_tup (pa_cons (pe_str) (pa_cons (pe_ix ix_list (pe_ix ix_list (pv 4) (pv 7) (fun _ _ => rfl)) (pv 10) (fun _ _ => rfl)) (pa_nil)))))) (pss_nil)) (pss_one (ps_if (pt_cmpR (op_neD hr.units) (pe_call G_l_said (hr.mono (by decide)) rfl T.g_l_said T.k_l_said B_l_said .nil pass0 (pa_cons (pe_ix ix_list (pv 3) (pv 7) (fun _ _ => rfl)) (pa_cons (pv 10) (pa_nil)))) (pv 11) (nomark _)) (pss_one (ps_ret (pe_bl))) (pss_nil)))))))) (pss_one (ps_for PassesOwn.never rfl (pi_range1 rfl T.n_range (pa_cons (pe_int) (pa_nil))) (pg_name (i := 1) sc_law.nd rfl (Or.inl rfl)) (pss_one (ps_if (pt_not (pt_val (pe_call G_l_stands (hr.mono (by decide)) rfl T.g_l_stands T.k_l_stands B_l_stands .nil pass0 (pa_cons (pe_ix ix_list (pv 3) (pv 1) (fun _ _ => rfl)) (pa_cons (pe_ix ix_list (pv 2) (pv 1) (fun _ _ => rfl)) (pa_cons (pe_ix ix_list (pv 4) (pv 1) (fun _ _ => rfl)) (pa_cons (pv 5) (pa_cons (pe_op op_mod (pe_op op_fdiv (pv 6) (pe_int)) (pe_int)) (pa_nil))))))))) (pss_one (ps_ret (pe_bl))) (pss_nil)))))))) (pss_cons (ps_set (i := 12) sc_law.nd rfl (Or.inl rfl) (pe_ix ix_list (pe_lst (pa_cons (pe_non) (pa_cons (pe_bl) (pa_cons (pe_bl) (pa_cons (pe_str) (pa_cons (pe_lst (pa_cons (pe_int) (pa_nil))) (pa_cons (pe_tup (pa_cons (pe_int) (pa_nil))) (pa_cons (pe_un un_neg (pe_int)) (pa_nil))))))))) (pe_op op_mod (pe_op op_fdiv (pe_call G_l_at (hr.mono (by decide)) rfl T.g_l_at T.k_l_at B_l_at .nil pass0 (pa_cons (pv 0) (pa_cons (pe_int) (pa_nil)))) (pe_int)) (pe_int)) (fun _ _ => rfl))) (pss_cons (ps_if (pt_cmpR (op_neD hr.units) (pe_call G_l_said (hr.mono (by decide)) rfl T.g_l_said T.k_l_said B_l_said .nil pass0 (pa_cons (pe_ix ix_list (pv 3) (pe_int) (fun _ _ => rfl)) (pa_cons (pv 12) (pa_nil)))) (pe_tup (pa_cons (pe_str) (pa_cons (pe_str) (pa_nil)))) (nomark _)) (pss_one (ps_ret (pe_bl))) (pss_nil)) (pss_one (ps_ret (pe_cmpR (op_eqD hr.units) (pe_lc (own := [("_law_old", 13)]) rfl sc_law.nd (pi_list (pv 5)) (blkOk_by (own := [("_law_old", 13)]) (N := N_law) (sc := defScope s_law) (by decide +kernel)) (fun _ _ _ _ _ => pg_name (i := 13) sc_law.nd rfl (Or.inl rfl)) (fun _ _ _ _ _ => pts_one (pt_cmpR (op_neD hr.units) (pe_ix ix_tup (pv 13) (pe_int) (fun _ _ => rfl)) (pe_ix ix_tup (pv 13) (pe_int) (fun _ _ => rfl)) (nomark _))) (fun _ _ _ _ _ => pv 13)) (pe_lst (pa_nil)) (nomark _))))))))))
end
theorem all_mk {l : PySem.W.OpenLaw} {w : World} {K : PySem.W.Frag} {h : Heap} {mg : Str → Option Value} {fa c_Post e_PostError e_BadBounds e_BadRing e_BadTexts e_BadStep e_NotNow e_NoLetter e_Safe e_NoLine f_is_whole f_Post_init f_Post_posted f_Post_there f_Post_taken f_l_at f_l_mixed f_l_whole f_l_word f_l_said f_l_thing f_l_due f_l_there f_l_stands f_law : Addr} (X : K.In h) (G : h.Ns mainGlobals mg) (hfa : mg "law" = some (.ref fa))
    {od_is_whole an_is_whole od_Post_init an_Post_init od_Post_posted an_Post_posted od_Post_there an_Post_there od_Post_taken an_Post_taken od_l_at an_l_at od_l_mixed an_l_mixed od_l_whole an_l_whole od_l_word an_l_word od_l_said an_l_said od_l_thing an_l_thing od_l_due an_l_due od_l_there an_l_there od_l_stands an_l_stands od_law an_law : Option Addr} {sl_is_whole sl_Post_init sl_Post_posted sl_Post_there sl_Post_taken sl_l_at sl_l_mixed sl_l_whole sl_l_word sl_l_said sl_l_thing sl_l_due sl_l_there sl_l_stands sl_law : Array (Option Value)} {oc_is_whole kV_is_whole dc_is_whole pm_is_whole cd_is_whole ct_is_whole oc_Post_init kV_Post_init dc_Post_init pm_Post_init cd_Post_init ct_Post_init oc_Post_posted kV_Post_posted dc_Post_posted pm_Post_posted cd_Post_posted ct_Post_posted oc_Post_there kV_Post_there dc_Post_there pm_Post_there cd_Post_there ct_Post_there oc_Post_taken kV_Post_taken dc_Post_taken pm_Post_taken cd_Post_taken ct_Post_taken oc_l_at kV_l_at dc_l_at pm_l_at cd_l_at ct_l_at oc_l_mixed kV_l_mixed dc_l_mixed pm_l_mixed cd_l_mixed ct_l_mixed oc_l_whole kV_l_whole dc_l_whole pm_l_whole cd_l_whole ct_l_whole oc_l_word kV_l_word dc_l_word pm_l_word cd_l_word ct_l_word oc_l_said kV_l_said dc_l_said pm_l_said cd_l_said ct_l_said oc_l_thing kV_l_thing dc_l_thing pm_l_thing cd_l_thing ct_l_thing oc_l_due kV_l_due dc_l_due pm_l_due cd_l_due ct_l_due oc_l_there kV_l_there dc_l_there pm_l_there cd_l_there ct_l_there oc_l_stands kV_l_stands dc_l_stands pm_l_stands cd_l_stands ct_l_stands oc_law kV_law dc_law pm_law cd_law ct_law : Value}
    (aC_Post : PySem.W.nsIn K mainGlobals "Post" = some (some (.ref c_Post)))
    (aE_PostError : PySem.W.nsIn K mainGlobals "PostError" = some (some (.ref e_PostError)))
    (aE_BadBounds : PySem.W.nsIn K mainGlobals "BadBounds" = some (some (.ref e_BadBounds)))
    (aE_BadRing : PySem.W.nsIn K mainGlobals "BadRing" = some (some (.ref e_BadRing)))
    (aE_BadTexts : PySem.W.nsIn K mainGlobals "BadTexts" = some (some (.ref e_BadTexts)))
    (aE_BadStep : PySem.W.nsIn K mainGlobals "BadStep" = some (some (.ref e_BadStep)))
    (aE_NotNow : PySem.W.nsIn K mainGlobals "NotNow" = some (some (.ref e_NotNow)))
    (aE_NoLetter : PySem.W.nsIn K mainGlobals "NoLetter" = some (some (.ref e_NoLetter)))
    (aE_Safe : PySem.W.nsIn K mainGlobals "Safe" = some (some (.ref e_Safe)))
    (aE_NoLine : PySem.W.nsIn K mainGlobals "NoLine" = some (some (.ref e_NoLine)))
    (a_is_whole : PySem.W.nsIn K mainGlobals "is_whole" = some (some (.ref f_is_whole)))
    (l_is_whole : K.lookup f_is_whole = some ⟨oc_is_whole, od_is_whole, .func (PySem.W.fnOf "is_whole" "is_whole" (defArgs s_is_whole) (defBody s_is_whole) (defScope s_is_whole) .none kV_is_whole dc_is_whole pm_is_whole an_is_whole cd_is_whole ct_is_whole), sl_is_whole⟩)
    (cd1_is_whole : PySem.W.codeIn K cd_is_whole "is_whole" = true)
    (kp_is_whole : PySem.W.keepIn K (.ref f_is_whole) = true)
    (a_Post_init : PySem.W.findIn K (.ref c_Post) "__init__" = some (some (.ref f_Post_init)))
    (i_Post_init : PySem.W.isFn K (.ref f_Post_init) = true)
    (l_Post_init : K.lookup f_Post_init = some ⟨oc_Post_init, od_Post_init, .func (PySem.W.fnOf "__init__" "Post.__init__" (defArgs s_Post_init) (defBody s_Post_init) (defScope s_Post_init) .none kV_Post_init dc_Post_init pm_Post_init an_Post_init cd_Post_init ct_Post_init), sl_Post_init⟩)
    (cd1_Post_init : PySem.W.codeIn K cd_Post_init "Post.__init__" = true)
    (kp_Post_init : PySem.W.keepIn K (.ref f_Post_init) = true)
    (a_Post_posted : PySem.W.findIn K (.ref c_Post) "posted" = some (some (.ref f_Post_posted)))
    (i_Post_posted : PySem.W.isFn K (.ref f_Post_posted) = true)
    (l_Post_posted : K.lookup f_Post_posted = some ⟨oc_Post_posted, od_Post_posted, .func (PySem.W.fnOf "posted" "Post.posted" (defArgs s_Post_posted) (defBody s_Post_posted) (defScope s_Post_posted) .none kV_Post_posted dc_Post_posted pm_Post_posted an_Post_posted cd_Post_posted ct_Post_posted), sl_Post_posted⟩)
    (cd1_Post_posted : PySem.W.codeIn K cd_Post_posted "Post.posted" = true)
    (kp_Post_posted : PySem.W.keepIn K (.ref f_Post_posted) = true)
    (a_Post_there : PySem.W.findIn K (.ref c_Post) "there" = some (some (.ref f_Post_there)))
    (i_Post_there : PySem.W.isFn K (.ref f_Post_there) = true)
    (l_Post_there : K.lookup f_Post_there = some ⟨oc_Post_there, od_Post_there, .func (PySem.W.fnOf "there" "Post.there" (defArgs s_Post_there) (defBody s_Post_there) (defScope s_Post_there) .none kV_Post_there dc_Post_there pm_Post_there an_Post_there cd_Post_there ct_Post_there), sl_Post_there⟩)
    (cd1_Post_there : PySem.W.codeIn K cd_Post_there "Post.there" = true)
    (kp_Post_there : PySem.W.keepIn K (.ref f_Post_there) = true)
    (a_Post_taken : PySem.W.findIn K (.ref c_Post) "taken" = some (some (.ref f_Post_taken)))
    (i_Post_taken : PySem.W.isFn K (.ref f_Post_taken) = true)
    (l_Post_taken : K.lookup f_Post_taken = some ⟨oc_Post_taken, od_Post_taken, .func (PySem.W.fnOf "taken" "Post.taken" (defArgs s_Post_taken) (defBody s_Post_taken) (defScope s_Post_taken) .none kV_Post_taken dc_Post_taken pm_Post_taken an_Post_taken cd_Post_taken ct_Post_taken), sl_Post_taken⟩)
    (cd1_Post_taken : PySem.W.codeIn K cd_Post_taken "Post.taken" = true)
    (kp_Post_taken : PySem.W.keepIn K (.ref f_Post_taken) = true)
    (a_l_at : PySem.W.nsIn K mainGlobals "_law_at" = some (some (.ref f_l_at)))
    (l_l_at : K.lookup f_l_at = some ⟨oc_l_at, od_l_at, .func (PySem.W.fnOf "_law_at" "_law_at" (defArgs s_l_at) (defBody s_l_at) (defScope s_l_at) .none kV_l_at dc_l_at pm_l_at an_l_at cd_l_at ct_l_at), sl_l_at⟩)
    (cd1_l_at : PySem.W.codeIn K cd_l_at "_law_at" = true)
    (kp_l_at : PySem.W.keepIn K (.ref f_l_at) = true)
    (a_l_mixed : PySem.W.nsIn K mainGlobals "_law_mixed" = some (some (.ref f_l_mixed)))
    (l_l_mixed : K.lookup f_l_mixed = some ⟨oc_l_mixed, od_l_mixed, .func (PySem.W.fnOf "_law_mixed" "_law_mixed" (defArgs s_l_mixed) (defBody s_l_mixed) (defScope s_l_mixed) .none kV_l_mixed dc_l_mixed pm_l_mixed an_l_mixed cd_l_mixed ct_l_mixed), sl_l_mixed⟩)
    (cd1_l_mixed : PySem.W.codeIn K cd_l_mixed "_law_mixed" = true)
    (kp_l_mixed : PySem.W.keepIn K (.ref f_l_mixed) = true)
    (a_l_whole : PySem.W.nsIn K mainGlobals "_law_whole" = some (some (.ref f_l_whole)))
    (l_l_whole : K.lookup f_l_whole = some ⟨oc_l_whole, od_l_whole, .func (PySem.W.fnOf "_law_whole" "_law_whole" (defArgs s_l_whole) (defBody s_l_whole) (defScope s_l_whole) .none kV_l_whole dc_l_whole pm_l_whole an_l_whole cd_l_whole ct_l_whole), sl_l_whole⟩)
    (cd1_l_whole : PySem.W.codeIn K cd_l_whole "_law_whole" = true)
    (kp_l_whole : PySem.W.keepIn K (.ref f_l_whole) = true)
    (a_l_word : PySem.W.nsIn K mainGlobals "_law_word" = some (some (.ref f_l_word)))
    (l_l_word : K.lookup f_l_word = some ⟨oc_l_word, od_l_word, .func (PySem.W.fnOf "_law_word" "_law_word" (defArgs s_l_word) (defBody s_l_word) (defScope s_l_word) .none kV_l_word dc_l_word pm_l_word an_l_word cd_l_word ct_l_word), sl_l_word⟩)
    (cd1_l_word : PySem.W.codeIn K cd_l_word "_law_word" = true)
    (kp_l_word : PySem.W.keepIn K (.ref f_l_word) = true)
    (a_l_said : PySem.W.nsIn K mainGlobals "_law_said" = some (some (.ref f_l_said)))
    (l_l_said : K.lookup f_l_said = some ⟨oc_l_said, od_l_said, .func (PySem.W.fnOf "_law_said" "_law_said" (defArgs s_l_said) (defBody s_l_said) (defScope s_l_said) .none kV_l_said dc_l_said pm_l_said an_l_said cd_l_said ct_l_said), sl_l_said⟩)
    (cd1_l_said : PySem.W.codeIn K cd_l_said "_law_said" = true)
    (kp_l_said : PySem.W.keepIn K (.ref f_l_said) = true)
    (a_l_thing : PySem.W.nsIn K mainGlobals "_law_thing" = some (some (.ref f_l_thing)))
    (l_l_thing : K.lookup f_l_thing = some ⟨oc_l_thing, od_l_thing, .func (PySem.W.fnOf "_law_thing" "_law_thing" (defArgs s_l_thing) (defBody s_l_thing) (defScope s_l_thing) .none kV_l_thing dc_l_thing pm_l_thing an_l_thing cd_l_thing ct_l_thing), sl_l_thing⟩)
    (cd1_l_thing : PySem.W.codeIn K cd_l_thing "_law_thing" = true)
    (kp_l_thing : PySem.W.keepIn K (.ref f_l_thing) = true)
    (a_l_due : PySem.W.nsIn K mainGlobals "_law_due" = some (some (.ref f_l_due)))
    (l_l_due : K.lookup f_l_due = some ⟨oc_l_due, od_l_due, .func (PySem.W.fnOf "_law_due" "_law_due" (defArgs s_l_due) (defBody s_l_due) (defScope s_l_due) .none kV_l_due dc_l_due pm_l_due an_l_due cd_l_due ct_l_due), sl_l_due⟩)
    (cd1_l_due : PySem.W.codeIn K cd_l_due "_law_due" = true)
    (kp_l_due : PySem.W.keepIn K (.ref f_l_due) = true)
    (a_l_there : PySem.W.nsIn K mainGlobals "_law_there" = some (some (.ref f_l_there)))
    (l_l_there : K.lookup f_l_there = some ⟨oc_l_there, od_l_there, .func (PySem.W.fnOf "_law_there" "_law_there" (defArgs s_l_there) (defBody s_l_there) (defScope s_l_there) .none kV_l_there dc_l_there pm_l_there an_l_there cd_l_there ct_l_there), sl_l_there⟩)
    (cd1_l_there : PySem.W.codeIn K cd_l_there "_law_there" = true)
    (kp_l_there : PySem.W.keepIn K (.ref f_l_there) = true)
    (a_l_stands : PySem.W.nsIn K mainGlobals "_law_stands" = some (some (.ref f_l_stands)))
    (l_l_stands : K.lookup f_l_stands = some ⟨oc_l_stands, od_l_stands, .func (PySem.W.fnOf "_law_stands" "_law_stands" (defArgs s_l_stands) (defBody s_l_stands) (defScope s_l_stands) .none kV_l_stands dc_l_stands pm_l_stands an_l_stands cd_l_stands ct_l_stands), sl_l_stands⟩)
    (cd1_l_stands : PySem.W.codeIn K cd_l_stands "_law_stands" = true)
    (kp_l_stands : PySem.W.keepIn K (.ref f_l_stands) = true)
    (a_law : PySem.W.nsIn K mainGlobals "law" = some (some (.ref f_law)))
    (l_law : K.lookup f_law = some ⟨oc_law, od_law, .func (PySem.W.fnOf "law" "law" (defArgs s_law) (defBody s_law) (defScope s_law) .none kV_law dc_law pm_law an_law cd_law ct_law), sl_law⟩)
    (cd1_law : PySem.W.codeIn K cd_law "law" = true)
    (kp_law : PySem.W.keepIn K (.ref f_law) = true)
    (pg_Post : PySem.W.plainGet K c_Post Str.empty = true)
    (hd_Post : PySem.W.hasDictIn K c_Post = true)
    (po_Post : PySem.W.plainOver K c_Post = true)
    (sa_Post : PySem.W.findIn K (.ref c_Post) "__setattr__" = some (some (.builtin "object.__setattr__")))
    (mk_Post : PySem.W.makesIn K c_Post = true)
    (kc_Post : PySem.W.keepIn K (.ref c_Post) = true)
    (na_Post_bound : PySem.W.findIn K (.ref c_Post) "_bound" = some none)
    (na_Post_many : PySem.W.findIn K (.ref c_Post) "_many" = some none)
    (na_Post_things : PySem.W.findIn K (.ref c_Post) "_things" = some none)
    (n_ValueError : PySem.W.nsIn K mainGlobals "ValueError" = some none)
    (n_all : PySem.W.nsIn K mainGlobals "all" = some none)
    (n_bool : PySem.W.nsIn K mainGlobals "bool" = some none)
    (n_int : PySem.W.nsIn K mainGlobals "int" = some none)
    (n_isinstance : PySem.W.nsIn K mainGlobals "isinstance" = some none)
    (n_len : PySem.W.nsIn K mainGlobals "len" = some none)
    (n_list : PySem.W.nsIn K mainGlobals "list" = some none)
    (n_range : PySem.W.nsIn K mainGlobals "range" = some none)
    (n_sorted : PySem.W.nsIn K mainGlobals "sorted" = some none)
    (n_type : PySem.W.nsIn K mainGlobals "type" = some none)
    (x_NoLetter : PySem.W.excIn K e_NoLetter [.type "ValueError", .type "Exception", .type "BaseException", .type "object"] "ValueError.__new__" = true)
    (k_NoLetter : PySem.W.keepIn K (.ref e_NoLetter) = true)
    (b_NoLetter : PySem.W.subIn K (.ref e_NoLetter) (.type "BaseException") = some true)
    (t_NoLetter : PySem.W.typeIn K (.ref e_NoLetter) = some (.type "type"))
    (hg_NoLetter : PySem.W.findIn K (.ref e_NoLetter) "__getattribute__" = some (some (.builtin "BaseException.__getattribute__")))
    (hk_NoLetter : PySem.W.findIn K (.ref e_NoLetter) "__getattr__" = some none)
    (hdd_NoLetter : PySem.W.hasDictIn K e_NoLetter = true)
    (ha_NoLetter : PySem.W.findIn K (.ref e_NoLetter) "__class__" = some (some (.builtin "object.__class__")))
    (hm_NoLetter : PySem.W.mroIn K e_NoLetter (.type "object") = some true)
    (sv_NoLetter : PySem.W.subIn K (.ref e_NoLetter) (.type "ValueError") = some true)
    (s_NoLetter_PostError : PySem.W.subIn K (.ref e_NoLetter) (.ref e_PostError) = some true)
    (d_NoLetter_PostError : (Value.ref e_NoLetter == Value.ref e_PostError) = false)
    (s_NoLetter_BadBounds : PySem.W.subIn K (.ref e_NoLetter) (.ref e_BadBounds) = some false)
    (d_NoLetter_BadBounds : (Value.ref e_NoLetter == Value.ref e_BadBounds) = false)
    (s_NoLetter_BadRing : PySem.W.subIn K (.ref e_NoLetter) (.ref e_BadRing) = some false)
    (d_NoLetter_BadRing : (Value.ref e_NoLetter == Value.ref e_BadRing) = false)
    (s_NoLetter_BadTexts : PySem.W.subIn K (.ref e_NoLetter) (.ref e_BadTexts) = some false)
    (d_NoLetter_BadTexts : (Value.ref e_NoLetter == Value.ref e_BadTexts) = false)
    (s_NoLetter_BadStep : PySem.W.subIn K (.ref e_NoLetter) (.ref e_BadStep) = some false)
    (d_NoLetter_BadStep : (Value.ref e_NoLetter == Value.ref e_BadStep) = false)
    (s_NoLetter_NotNow : PySem.W.subIn K (.ref e_NoLetter) (.ref e_NotNow) = some false)
    (d_NoLetter_NotNow : (Value.ref e_NoLetter == Value.ref e_NotNow) = false)
    (s_NoLetter_NoLetter : PySem.W.subIn K (.ref e_NoLetter) (.ref e_NoLetter) = some true)
    (s_NoLetter_Safe : PySem.W.subIn K (.ref e_NoLetter) (.ref e_Safe) = some false)
    (d_NoLetter_Safe : (Value.ref e_NoLetter == Value.ref e_Safe) = false)
    (s_NoLetter_NoLine : PySem.W.subIn K (.ref e_NoLetter) (.ref e_NoLine) = some false)
    (d_NoLetter_NoLine : (Value.ref e_NoLetter == Value.ref e_NoLine) = false)
    (cn : PySem.W.specialIn K (.builtin "object.__class__") "__get__" = some (some (.builtin "getset_descriptor.__get__")))
    (ctk : PySem.W.takesIn K (.builtin "object.__class__") = some true)
    (ic_PostError : PySem.W.isClsIn K e_PostError = true)
    (t_PostError : PySem.W.typeIn K (.ref e_PostError) = some (.type "type"))
    (ic_BadBounds : PySem.W.isClsIn K e_BadBounds = true)
    (t_BadBounds : PySem.W.typeIn K (.ref e_BadBounds) = some (.type "type"))
    (ic_BadRing : PySem.W.isClsIn K e_BadRing = true)
    (t_BadRing : PySem.W.typeIn K (.ref e_BadRing) = some (.type "type"))
    (ic_BadTexts : PySem.W.isClsIn K e_BadTexts = true)
    (t_BadTexts : PySem.W.typeIn K (.ref e_BadTexts) = some (.type "type"))
    (ic_BadStep : PySem.W.isClsIn K e_BadStep = true)
    (t_BadStep : PySem.W.typeIn K (.ref e_BadStep) = some (.type "type"))
    (ic_NotNow : PySem.W.isClsIn K e_NotNow = true)
    (t_NotNow : PySem.W.typeIn K (.ref e_NotNow) = some (.type "type"))
    (ic_NoLetter : PySem.W.isClsIn K e_NoLetter = true)
    (ic_Safe : PySem.W.isClsIn K e_Safe = true)
    (t_Safe : PySem.W.typeIn K (.ref e_Safe) = some (.type "type"))
    (ic_NoLine : PySem.W.isClsIn K e_NoLine = true)
    (t_NoLine : PySem.W.typeIn K (.ref e_NoLine) = some (.type "type"))
    (b_PostError : PySem.W.subIn K (.ref e_PostError) (.type "BaseException") = some true)
    : ∃ fd : FuncData, (∀ (s : Shared) (v : Value), BindsTo s fd ⟨[v], []⟩ [("_law_script", v)]) ∧ ∀ base : Heap, K.In base → base.Ns mainGlobals mg → FnOk l.prog w K mg base CX0 5 fa fd ["_law_script"] (sp_law K ⟨e_PostError, e_BadBounds, e_BadRing, e_BadTexts, e_BadStep, e_NotNow, e_NoLetter, e_Safe, e_NoLine, c_Post, f_is_whole, f_Post_init, f_Post_posted, f_Post_there, f_Post_taken, f_l_at, f_l_mixed, f_l_whole, f_l_word, f_l_said, f_l_thing, f_l_due, f_l_there, f_l_stands, f_law⟩) := by
  have e := hfa.symm.trans (PySem.W.mg_of X G a_law)
  cases e
  let a : Ad := ⟨e_PostError, e_BadBounds, e_BadRing, e_BadTexts, e_BadStep, e_NotNow, e_NoLetter, e_Safe, e_NoLine, c_Post, f_is_whole, f_Post_init, f_Post_posted, f_Post_there, f_Post_taken, f_l_at, f_l_mixed, f_l_whole, f_l_word, f_l_said, f_l_thing, f_l_due, f_l_there, f_l_stands, fa⟩
  have T : Txt K mg a := {
    n_ValueError := PySem.W.mg_none_of X G n_ValueError
    n_all := PySem.W.mg_none_of X G n_all
    n_bool := PySem.W.mg_none_of X G n_bool
    n_int := PySem.W.mg_none_of X G n_int
    n_isinstance := PySem.W.mg_none_of X G n_isinstance
    n_len := PySem.W.mg_none_of X G n_len
    n_list := PySem.W.mg_none_of X G n_list
    n_range := PySem.W.mg_none_of X G n_range
    n_sorted := PySem.W.mg_none_of X G n_sorted
    n_type := PySem.W.mg_none_of X G n_type
    g_Post := PySem.W.mg_of X G aC_Post
    c_Post := ⟨pg_Post, hd_Post, po_Post, sa_Post⟩
    mk_Post := ⟨mk_Post, a_Post_init, i_Post_init, kc_Post⟩
    na_Post_bound := na_Post_bound
    na_Post_many := na_Post_many
    na_Post_things := na_Post_things
    mt_Post_posted := ⟨a_Post_posted, i_Post_posted, kp_Post_posted⟩
    mt_Post_there := ⟨a_Post_there, i_Post_there, kp_Post_there⟩
    mt_Post_taken := ⟨a_Post_taken, i_Post_taken, kp_Post_taken⟩
    g_PostError := PySem.W.mg_of X G aE_PostError
    g_BadBounds := PySem.W.mg_of X G aE_BadBounds
    g_BadRing := PySem.W.mg_of X G aE_BadRing
    g_BadTexts := PySem.W.mg_of X G aE_BadTexts
    g_BadStep := PySem.W.mg_of X G aE_BadStep
    g_NotNow := PySem.W.mg_of X G aE_NotNow
    g_NoLetter := PySem.W.mg_of X G aE_NoLetter
    g_Safe := PySem.W.mg_of X G aE_Safe
    g_NoLine := PySem.W.mg_of X G aE_NoLine
    x_NoLetter := x_NoLetter
    k_NoLetter := k_NoLetter
    b_NoLetter := b_NoLetter
    t_NoLetter := t_NoLetter
    ec := by intro er; cases er with | NoLetter => exact ⟨hg_NoLetter, hk_NoLetter, b_NoLetter, hdd_NoLetter, ha_NoLetter, cn, ctk, hm_NoLetter⟩
    is_PostError := by intro er; cases er with | NoLetter => exact Rp.kit_sub d_NoLetter_PostError ic_PostError t_PostError s_NoLetter_PostError
    is_BadBounds := by intro er; cases er with | NoLetter => exact Rp.kit_sub d_NoLetter_BadBounds ic_BadBounds t_BadBounds s_NoLetter_BadBounds
    is_BadRing := by intro er; cases er with | NoLetter => exact Rp.kit_sub d_NoLetter_BadRing ic_BadRing t_BadRing s_NoLetter_BadRing
    is_BadTexts := by intro er; cases er with | NoLetter => exact Rp.kit_sub d_NoLetter_BadTexts ic_BadTexts t_BadTexts s_NoLetter_BadTexts
    is_BadStep := by intro er; cases er with | NoLetter => exact Rp.kit_sub d_NoLetter_BadStep ic_BadStep t_BadStep s_NoLetter_BadStep
    is_NotNow := by intro er; cases er with | NoLetter => exact Rp.kit_sub d_NoLetter_NotNow ic_NotNow t_NotNow s_NoLetter_NotNow
    is_NoLetter := by intro er; cases er with | NoLetter => exact Rp.kit_same
    is_Safe := by intro er; cases er with | NoLetter => exact Rp.kit_sub d_NoLetter_Safe ic_Safe t_Safe s_NoLetter_Safe
    is_NoLine := by intro er; cases er with | NoLetter => exact Rp.kit_sub d_NoLetter_NoLine ic_NoLine t_NoLine s_NoLetter_NoLine
    is_ValueError := by intro er; cases er with | NoLetter => exact Rp.kit_ve sv_NoLetter
    ex_PostError := by intro er; cases er with | NoLetter => exact Rp.exm_sub b_PostError ic_PostError t_PostError s_NoLetter_PostError
    g_is_whole := PySem.W.mg_of X G a_is_whole
    k_is_whole := kp_is_whole
    g_l_at := PySem.W.mg_of X G a_l_at
    k_l_at := kp_l_at
    g_l_mixed := PySem.W.mg_of X G a_l_mixed
    k_l_mixed := kp_l_mixed
    g_l_whole := PySem.W.mg_of X G a_l_whole
    k_l_whole := kp_l_whole
    g_l_word := PySem.W.mg_of X G a_l_word
    k_l_word := kp_l_word
    g_l_said := PySem.W.mg_of X G a_l_said
    k_l_said := kp_l_said
    g_l_thing := PySem.W.mg_of X G a_l_thing
    k_l_thing := kp_l_thing
    g_l_due := PySem.W.mg_of X G a_l_due
    k_l_due := kp_l_due
    g_l_there := PySem.W.mg_of X G a_l_there
    k_l_there := kp_l_there
    g_l_stands := PySem.W.mg_of X G a_l_stands
    k_l_stands := kp_l_stands
  }
  have F_is_whole := fun_mk (st := s_is_whole) l_is_whole cd1_is_whole kp_is_whole
  have B_is_whole := F_is_whole.binds (ps := ["thing"]) fun _ _ _ _ _ _ us hl => match us, hl with | [_], _ => rfl
  have F_Post_init := fun_mk (st := s_Post_init) l_Post_init cd1_Post_init kp_Post_init
  have B_Post_init := F_Post_init.binds (ps := ["self", "bound"]) fun _ _ _ _ _ _ us hl => match us, hl with | [_, _], _ => rfl
  have F_Post_posted := fun_mk (st := s_Post_posted) l_Post_posted cd1_Post_posted kp_Post_posted
  have B_Post_posted := F_Post_posted.binds (ps := ["self", "thing"]) fun _ _ _ _ _ _ us hl => match us, hl with | [_, _], _ => rfl
  have F_Post_there := fun_mk (st := s_Post_there) l_Post_there cd1_Post_there kp_Post_there
  have B_Post_there := F_Post_there.binds (ps := ["self"]) fun _ _ _ _ _ _ us hl => match us, hl with | [_], _ => rfl
  have F_Post_taken := fun_mk (st := s_Post_taken) l_Post_taken cd1_Post_taken kp_Post_taken
  have B_Post_taken := F_Post_taken.binds (ps := ["self", "number"]) fun _ _ _ _ _ _ us hl => match us, hl with | [_, _], _ => rfl
  have F_l_at := fun_mk (st := s_l_at) l_l_at cd1_l_at kp_l_at
  have B_l_at := F_l_at.binds (ps := ["_law_script", "_law_k"]) fun _ _ _ _ _ _ us hl => match us, hl with | [_, _], _ => rfl
  have F_l_mixed := fun_mk (st := s_l_mixed) l_l_mixed cd1_l_mixed kp_l_mixed
  have B_l_mixed := F_l_mixed.binds (ps := ["_law_cell", "_law_k"]) fun _ _ _ _ _ _ us hl => match us, hl with | [_, _], _ => rfl
  have F_l_whole := fun_mk (st := s_l_whole) l_l_whole cd1_l_whole kp_l_whole
  have B_l_whole := F_l_whole.binds (ps := ["_law_thing_here"]) fun _ _ _ _ _ _ us hl => match us, hl with | [_], _ => rfl
  have F_l_word := fun_mk (st := s_l_word) l_l_word cd1_l_word kp_l_word
  have B_l_word := F_l_word.binds (ps := ["_law_error"]) fun _ _ _ _ _ _ us hl => match us, hl with | [_], _ => rfl
  have F_l_said := fun_mk (st := s_l_said) l_l_said cd1_l_said kp_l_said
  have B_l_said := F_l_said.binds (ps := ["_law_post", "_law_number"]) fun _ _ _ _ _ _ us hl => match us, hl with | [_, _], _ => rfl
  have F_l_thing := fun_mk (st := s_l_thing) l_l_thing cd1_l_thing kp_l_thing
  have B_l_thing := F_l_thing.binds (ps := ["_law_cell"]) fun _ _ _ _ _ _ us hl => match us, hl with | [_], _ => rfl
  have F_l_due := fun_mk (st := s_l_due) l_l_due cd1_l_due kp_l_due
  have B_l_due := F_l_due.binds (ps := ["_law_bound", "_law_things"]) fun _ _ _ _ _ _ us hl => match us, hl with | [_, _], _ => rfl
  have F_l_there := fun_mk (st := s_l_there) l_l_there cd1_l_there kp_l_there
  have B_l_there := F_l_there.binds (ps := ["_law_post", "_law_bound", "_law_things", "_law_olds"]) fun _ _ _ _ _ _ us hl => match us, hl with | [_, _, _, _], _ => rfl
  have F_l_stands := fun_mk (st := s_l_stands) l_l_stands cd1_l_stands kp_l_stands
  have B_l_stands := F_l_stands.binds (ps := ["_law_post", "_law_bound", "_law_things", "_law_olds", "_law_way"]) fun _ _ _ _ _ _ us hl => match us, hl with | [_, _, _, _, _], _ => rfl
  have F_law := fun_mk (st := s_law) l_law cd1_law kp_law
  have B_law := F_law.binds (ps := ["_law_script"]) fun _ _ _ _ _ _ us hl => match us, hl with | [_], _ => rfl
  refine ⟨PySem.W.fnOf "law" "law" (defArgs s_law) (defBody s_law) (defScope s_law) .none kV_law dc_law pm_law an_law cd_law ct_law, ?_, fun base _ _ => ?_⟩
  · intro s v
    exact .of_eq rfl
  have G_is_whole := ok_is_whole (P := l.prog) (w := w) (base := base) (a := a) F_is_whole T 
  have G_Post_init := ok_Post_init (P := l.prog) (w := w) (base := base) (a := a) F_Post_init T 
  have G_Post_posted := ok_Post_posted (P := l.prog) (w := w) (base := base) (a := a) F_Post_posted T 
  have G_Post_there := ok_Post_there (P := l.prog) (w := w) (base := base) (a := a) F_Post_there T 
  have G_l_at := ok_l_at (P := l.prog) (w := w) (base := base) (a := a) F_l_at T 
  have G_l_mixed := ok_l_mixed (P := l.prog) (w := w) (base := base) (a := a) F_l_mixed T 
  have G_l_whole := ok_l_whole (P := l.prog) (w := w) (base := base) (a := a) F_l_whole T 
  have G_l_word := ok_l_word (P := l.prog) (w := w) (base := base) (a := a) F_l_word T 
  have G_l_thing := ok_l_thing (P := l.prog) (w := w) (base := base) (a := a) F_l_thing T 
  have G_l_due := ok_l_due (P := l.prog) (w := w) (base := base) (a := a) F_l_due T 
  have G_Post_taken := ok_Post_taken (P := l.prog) (w := w) (base := base) (a := a) F_Post_taken T G_is_whole B_is_whole
  have G_l_there := ok_l_there (P := l.prog) (w := w) (base := base) (a := a) F_l_there T G_Post_there B_Post_there G_l_whole B_l_whole G_l_due B_l_due
  have G_l_said := ok_l_said (P := l.prog) (w := w) (base := base) (a := a) F_l_said T G_Post_taken B_Post_taken G_l_word B_l_word
  have G_l_stands := ok_l_stands (P := l.prog) (w := w) (base := base) (a := a) F_l_stands T G_l_said B_l_said G_l_due B_l_due G_l_there B_l_there
  exact ok_law (P := l.prog) (w := w) (base := base) (a := a) F_law T G_Post_init B_Post_init G_Post_posted B_Post_posted G_l_at B_l_at G_l_mixed B_l_mixed G_l_whole B_l_whole G_l_said B_l_said G_l_thing B_l_thing G_l_due B_l_due G_l_stands B_l_stands
theorem walk {l : PySem.W.OpenLaw} {q : Program} {loose : List Str} {XP : (Str → Option Value) → Heap → Prop} {YP : World → Heap → Prop} {d : DefRec} {K : Params → PySem.W.Frag} (hn : l.most = some 63) (hdf : d.params.defaults = [])
    (hY : ∀ (w : World) (h : Heap), YP w h → (K w.params).In h)
    (F : ∀ (w : World) (mg : Str → Option Value) (fa : Addr) (h : Heap), (K w.params).In h → h.Ns mainGlobals mg → mg d.name = some (.ref fa) →
      ∃ fd : FuncData, (∀ (s : Shared) (u : Value), BindsTo s fd ⟨[u], []⟩ [("_law_script", u)]) ∧ ∀ base : Heap, (K w.params).In base → base.Ns mainGlobals mg → FnOk l.prog w (K w.params) mg base CX0 5 fa fd ["_law_script"] (Rp.spLaw (K w.params))) :
    PySem.W.WalkO q loose XP YP l.row.toRowW d [] (fun f vs => PySem.call f vs) :=
  L2.walk_of (n := 63) (k := 5) (x := "_law_script") (CX := fun _ => CX0) (sp := fun w => Rp.spLaw (K w.params)) hn (by decide) hdf ⟨rfl, by decide, by decide⟩ hY F (fun _ _ a ns hl _ hS => ⟨_, fun _ _ z => z, a, ns, rfl, hS, hl, fun _ _ _ _ => rfl⟩) fun _ _ _ _ _ z => z
end Rq
open PySem PySem.W PyProof.Rows
set_option maxRecDepth 100000 in
set_option maxHeartbeats 0 in
theorem PySem.Challenge.cw_ringpost_k04_what_is_there_holds : PySem.Challenge.rw_ringpost_k04_what_is_there.Holds := by
  w_on; o_law; k_head; (case hw => w_witness2)
  k_fill
  refine Rq.walk (l := PySem.Challenge.rw_ringpost_k04_what_is_there) rfl rfl (fun w h Y => PySem.W.kIn_of Y) ?F
  case F =>
    intro w mg fa h KX G hmg
    refine' Rq.all_mk KX G hmg ?aC_Post ?aE_PostError ?aE_BadBounds ?aE_BadRing ?aE_BadTexts ?aE_BadStep ?aE_NotNow ?aE_NoLetter ?aE_Safe ?aE_NoLine ?a_is_whole ?l_is_whole ?cd1_is_whole ?kp_is_whole ?a_Post_init ?i_Post_init ?l_Post_init ?cd1_Post_init ?kp_Post_init ?a_Post_posted ?i_Post_posted ?l_Post_posted ?cd1_Post_posted ?kp_Post_posted ?a_Post_there ?i_Post_there ?l_Post_there ?cd1_Post_there ?kp_Post_there ?a_Post_taken ?i_Post_taken ?l_Post_taken ?cd1_Post_taken ?kp_Post_taken ?a_l_at ?l_l_at ?cd1_l_at ?kp_l_at ?a_l_mixed ?l_l_mixed ?cd1_l_mixed ?kp_l_mixed ?a_l_whole ?l_l_whole ?cd1_l_whole ?kp_l_whole ?a_l_word ?l_l_word ?cd1_l_word ?kp_l_word ?a_l_said ?l_l_said ?cd1_l_said ?kp_l_said ?a_l_thing ?l_l_thing ?cd1_l_thing ?kp_l_thing ?a_l_due ?l_l_due ?cd1_l_due ?kp_l_due ?a_l_there ?l_l_there ?cd1_l_there ?kp_l_there ?a_l_stands ?l_l_stands ?cd1_l_stands ?kp_l_stands ?a_law ?l_law ?cd1_law ?kp_law ?pg_Post ?hd_Post ?po_Post ?sa_Post ?mk_Post ?kc_Post ?na_Post_bound ?na_Post_many ?na_Post_things ?n_ValueError ?n_all ?n_bool ?n_int ?n_isinstance ?n_len ?n_list ?n_range ?n_sorted ?n_type ?x_NoLetter ?k_NoLetter ?b_NoLetter ?t_NoLetter ?hg_NoLetter ?hk_NoLetter ?hdd_NoLetter ?ha_NoLetter ?hm_NoLetter ?sv_NoLetter ?s_NoLetter_PostError ?d_NoLetter_PostError ?s_NoLetter_BadBounds ?d_NoLetter_BadBounds ?s_NoLetter_BadRing ?d_NoLetter_BadRing ?s_NoLetter_BadTexts ?d_NoLetter_BadTexts ?s_NoLetter_BadStep ?d_NoLetter_BadStep ?s_NoLetter_NotNow ?d_NoLetter_NotNow ?s_NoLetter_NoLetter ?s_NoLetter_Safe ?d_NoLetter_Safe ?s_NoLetter_NoLine ?d_NoLetter_NoLine ?cn ?ctk ?ic_PostError ?t_PostError ?ic_BadBounds ?t_BadBounds ?ic_BadRing ?t_BadRing ?ic_BadTexts ?t_BadTexts ?ic_BadStep ?t_BadStep ?ic_NotNow ?t_NotNow ?ic_NoLetter ?ic_Safe ?t_Safe ?ic_NoLine ?t_NoLine ?b_PostError
    case aC_Post => k_is
    case aE_PostError => k_is
    case aE_BadBounds => k_is
    case aE_BadRing => k_is
    case aE_BadTexts => k_is
    case aE_BadStep => k_is
    case aE_NotNow => k_is
    case aE_NoLetter => k_is
    case aE_Safe => k_is
    case aE_NoLine => k_is
    case a_is_whole => k_is
    case l_is_whole => k_is
    case cd1_is_whole => k_is
    case kp_is_whole => k_is
    case a_Post_init => k_is
    case i_Post_init => k_is
    case l_Post_init => k_is
    case cd1_Post_init => k_is
    case kp_Post_init => k_is
    case a_Post_posted => k_is
    case i_Post_posted => k_is
    case l_Post_posted => k_is
    case cd1_Post_posted => k_is
    case kp_Post_posted => k_is
    case a_Post_there => k_is
    case i_Post_there => k_is
    case l_Post_there => k_is
    case cd1_Post_there => k_is
    case kp_Post_there => k_is
    case a_Post_taken => k_is
    case i_Post_taken => k_is
    case l_Post_taken => k_is
    case cd1_Post_taken => k_is
    case kp_Post_taken => k_is
    case a_l_at => k_is
    case l_l_at => k_is
    case cd1_l_at => k_is
    case kp_l_at => k_is
    case a_l_mixed => k_is
    case l_l_mixed => k_is
    case cd1_l_mixed => k_is
    case kp_l_mixed => k_is
    case a_l_whole => k_is
    case l_l_whole => k_is
    case cd1_l_whole => k_is
    case kp_l_whole => k_is
    case a_l_word => k_is
    case l_l_word => k_is
    case cd1_l_word => k_is
    case kp_l_word => k_is
    case a_l_said => k_is
    case l_l_said => k_is
    case cd1_l_said => k_is
    case kp_l_said => k_is
    case a_l_thing => k_is
    case l_l_thing => k_is
    case cd1_l_thing => k_is
    case kp_l_thing => k_is
    case a_l_due => k_is
    case l_l_due => k_is
    case cd1_l_due => k_is
    case kp_l_due => k_is
    case a_l_there => k_is
    case l_l_there => k_is
    case cd1_l_there => k_is
    case kp_l_there => k_is
    case a_l_stands => k_is
    case l_l_stands => k_is
    case cd1_l_stands => k_is
    case kp_l_stands => k_is
    case a_law => k_is
    case l_law => k_is
    case cd1_law => k_is
    case kp_law => k_is
    case pg_Post => k_is
    case hd_Post => k_is
    case po_Post => k_is
    case sa_Post => k_is
    case mk_Post => k_is
    case kc_Post => k_is
    case na_Post_bound => k_is
    case na_Post_many => k_is
    case na_Post_things => k_is
    case n_ValueError => k_is
    case n_all => k_is
    case n_bool => k_is
    case n_int => k_is
    case n_isinstance => k_is
    case n_len => k_is
    case n_list => k_is
    case n_range => k_is
    case n_sorted => k_is
    case n_type => k_is
    case x_NoLetter => k_exc
    case k_NoLetter => k_is
    case b_NoLetter => k_is
    case t_NoLetter => k_is
    case hg_NoLetter => k_is
    case hk_NoLetter => k_is
    case hdd_NoLetter => k_is
    case ha_NoLetter => k_is
    case hm_NoLetter => k_is
    case sv_NoLetter => k_is
    case s_NoLetter_PostError => first | k_is | rfl
    case d_NoLetter_PostError => decide
    case s_NoLetter_BadBounds => first | k_is | rfl
    case d_NoLetter_BadBounds => decide
    case s_NoLetter_BadRing => first | k_is | rfl
    case d_NoLetter_BadRing => decide
    case s_NoLetter_BadTexts => first | k_is | rfl
    case d_NoLetter_BadTexts => decide
    case s_NoLetter_BadStep => first | k_is | rfl
    case d_NoLetter_BadStep => decide
    case s_NoLetter_NotNow => first | k_is | rfl
    case d_NoLetter_NotNow => decide
    case s_NoLetter_NoLetter => first | k_is | rfl
    case s_NoLetter_Safe => first | k_is | rfl
    case d_NoLetter_Safe => decide
    case s_NoLetter_NoLine => first | k_is | rfl
    case d_NoLetter_NoLine => decide
    case cn => k_is
    case ctk => k_is
    case ic_PostError => k_is
    case t_PostError => k_is
    case ic_BadBounds => k_is
    case t_BadBounds => k_is
    case ic_BadRing => k_is
    case t_BadRing => k_is
    case ic_BadTexts => k_is
    case t_BadTexts => k_is
    case ic_BadStep => k_is
    case t_BadStep => k_is
    case ic_NotNow => k_is
    case t_NotNow => k_is
    case ic_NoLetter => k_is
    case ic_Safe => k_is
    case t_Safe => k_is
    case ic_NoLine => k_is
    case t_NoLine => k_is
    case b_PostError => k_is

