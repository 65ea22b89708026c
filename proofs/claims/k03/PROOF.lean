import PyProof.Rows.All
import Wide.All
import OpenK.AllK
import Wide.FinOn
import PyProof.ListStr
import PyProof.SliceStr2
import KE.KRevSl
import HandS.ForMost
import HandS.Style
import HandS.Wide
import PyProof.ReprRoads
import HandS.Exc
import HandS.ExcOwn
import HandS.WordsExc
import HandS.ExcInit
import HandS.ExcField
import HandS.ExcIs
import HandS.IsInst
import HandS.Defaults
import HandS.Walk
import KE.KExcIs
import PySem.Challenge.RW_growntexts_k03_settings_refused
set_option Elab.async false
set_option linter.all false
set_option maxRecDepth 100000
namespace My
open PySem PySem.Spec PyProof.Rows L2
section
variable {X : Cx}
/-- the signs of a text, each a text -/
def sgn (z : Str) : List V := z.cps.toList.map fun c => V.str ⟨#[c]⟩
theorem sgn_len (z : Str) : (sgn z).length = z.length := by
  unfold sgn
  rw [List.length_map, Array.length_toList]
  rfl
/-- list(z), z a text -/
theorem cr_listStr (hc : X.calm = true) : CallR X (.type "list") (fun xs H Q => ∃ z : Str, xs = [.str z] ∧ z.length ≤ sizeLine ∧ ∀ l, H l = none → Q (.ref l) (upd H l (.lst (sgn z)))) := by
  intro pins s σ H xs us Q I r h
  obtain ⟨z, rfl, hz, q⟩ := h
  obtain ⟨u, rfl, t, rfl⟩ := vals1 r
  refine PySem.call_list_str (I.ok.hd hc) z t (hn := hz) fun h' tk acc c' kp hg hi => ?_
  have e1 : acc.size = z.cps.size := hi.1
  have hv : Vals (sgn z) acc.toList := by
    have gen : ∀ (cs : List Nat) (us : List Value), us.length = cs.length → (∀ (j : Nat) (v : Value), us[j]? = some v → ∃ c w, cs[j]? = some c ∧ v = Value.str ⟨#[c]⟩ w) → Vals (cs.map fun c => V.str ⟨#[c]⟩) us := by
      intro cs
      induction cs with
      | nil =>
        intro us hl _
        cases us with
        | nil => exact .nil
        | cons a b => cases hl
      | cons c cs ih =>
        intro us hl hx
        cases us with
        | nil => cases hl
        | cons a b =>
          refine .cons ?_ (ih b (Nat.succ.inj hl) fun j v e => hx (j + 1) v (by simpa using e))
          obtain ⟨c', w, e2, e3⟩ := hx 0 a rfl
          have e4 : c = c' := Option.some.inj e2
          subst e4
          exact ⟨w, e3⟩
    refine gen z.cps.toList acc.toList (by rw [Array.length_toList, Array.length_toList, e1]) fun j v e => ?_
    obtain ⟨c, w, h1, h2⟩ := hi.2 j v (by simpa using e)
    exact ⟨c, w, by simpa using h1, h2⟩
  refine ⟨.ref s.heap.objs.size, _, I.laid (t' := tk) kp (Nat.le_refl _) (show ObjOk X.prog X.w _ h' _ (.lst (sgn z)) from ⟨by rw [sgn_len]; exact hz, acc.toList, c', hv, by simpa using hg⟩), rfl, q _ (I.hok.fresh (Nat.le_refl _))⟩
/-- repr(z), z a text -/
theorem cr_reprStr : CallR X (.builtin "repr") (fun xs H Q => ∃ z : Str, xs = [.str z] ∧ (reprText z).length ≤ sizeLine ∧ Q (.str (reprText z)) H) := by
  intro pins s σ H xs us Q I r h
  obtain ⟨z, rfl, hz, q⟩ := h
  obtain ⟨u, rfl, t, rfl⟩ := vals1 r
  exact PySem.P.repr_of_str (hsz := hz) ⟨.str _, H, I.tok _, ⟨_, rfl⟩, q⟩
/-- a text turned about -/
def revS (z : Str) : Str := ⟨z.cps.toList.reverse.toArray⟩
theorem back_ix (n : Nat) : Builtin.Str.strSliceIndices none none (-1) n = (List.range n).reverse := by
  unfold Builtin.Str.strSliceIndices
  show sliceRange ((n : Int) - 1) (-1) (-1) = _
  rw [PySem.W.krv_sliceRange, PySem.W.krv_range]
theorem back_all (z : Str) : ((List.range z.length).reverse.filterMap (z.cps[·]?)).toArray = z.cps.toList.reverse.toArray := by
  rw [List.filterMap_reverse]
  show ((List.range z.cps.size).filterMap (z.cps[·]?)).reverse.toArray = _
  rw [PySem.W.krv_all]
def tRevS (te : TE) (ts : TE) : TE := fun σ H Q => te σ H fun x H1 => ts σ H1 fun y H2 => y = .int (-1) ∧ ∃ z : Str, x = .str z ∧ z.length ≤ sizeLine ∧ Q (.str (revS z)) H2
/-- z[::k], k reckoned, -1 -/
theorem pe_revS {e st : Expr} {te ts : TE} {p3 pos : Pos} (he : PE X e te) (hs : PE X st ts)
    (hsub : ∀ v i, ∃ ops, subscripted (.Slice none none (some st) p3) false v i = operate ops (getItem v i) := by intro v i; exact ⟨_, rfl⟩) :
    PE X (.Subscript e (.Slice none none (some st) p3) pos) (tRevS te ts) := by
  refine ⟨fun pins s σ H Q I h => ?_⟩
  refine Subscript_ (thn (he.run pins s σ H _ I h) fun v s1 ⟨x, H1, I1, r1, q1⟩ => ?_)
  have hst : PO X (some st) (tPart ts) := po_some hs
  refine wpAny_Slice (thn (po_none.run pins s1 σ H1 (fun o H2 => o = none ∧ H2 = H1) I1 ⟨rfl, rfl⟩) fun vl s2 ⟨l, H2, I2, pl, el, e2⟩ => ?_)
  subst el e2
  refine thn (po_none.run pins s2 σ H2 (fun o H3 => o = none ∧ H3 = H2) I2 ⟨rfl, rfl⟩) fun vu s3 ⟨u, H3, I3, pu, eu, e3⟩ => ?_
  subst eu e3
  have exn : ∀ (y : V) (H4 : Hp), (y = .int (-1) ∧ ∃ z : Str, x = .str z ∧ z.length ≤ sizeLine ∧ Q (.str (revS z)) H4) → ∃ i, y = .int i ∧ (i = -1 ∧ ∃ z : Str, x = .str z ∧ z.length ≤ sizeLine ∧ Q (.str (revS z)) H4) := fun y H4 q => ⟨-1, q.1, rfl, q.2⟩
  rw [evalPart_some]
  refine thn (hs.run pins s3 σ H3 _ I3 q1) fun vs s4 ⟨y, H4, I4, ry, ey, z, ez, hz, q⟩ => ?_
  subst ey ez
  obtain ⟨t, rfl⟩ := r1
  obtain ⟨ty, rfl⟩ := ry
  obtain ⟨l', rfl, hl'⟩ := IsPart.raw pl
  obtain ⟨u', rfl, hu'⟩ := IsPart.raw pu
  have el : l' = none := by cases l' <;> first | rfl | cases hl'
  have eu : u' = none := by cases u' <;> first | rfl | cases hu'
  subst el eu
  have I5 : Inv X pins σ H4 { s4 with heap := s4.heap.push { cls := .type "slice", data := .fields #[partValue none, partValue none, .int (-1) ty] } } := I4.kept (t' := s4.toks) fun b ob q => Heap.get?_push_of_some _ q
  show wpAny (model X.prog X.w) X.A (subscriptTail e (.Slice none none (some st) p3) (.str z t) (.ref s4.heap.objs.size)) (EP X pins σ Q) X.xe { s4 with heap := s4.heap.push { cls := .type "slice", data := .fields #[partValue none, partValue none, .int (-1) ty] } }
  obtain ⟨ops, hops⟩ := hsub (.str z t) (.ref s4.heap.objs.size)
  refine tail_any (ops := ops) (typeIs_str _ _ _) (F.slot_str_getitem.lookup) ?_ hops
  refine wpAny_getItem_str_slice (l := none) (u := none) (st := some (-1, ty)) (Heap.IsSliceOf.new _ _ _ _) rfl ?_
  unfold sliceMade slicePicked
  show Made.post (if ((-1 : Int) == 1 && (Builtin.Str.strSliceIndices none none (-1) z.length).length == z.length) = true then Made.val (.str z t) else Made.str ⟨((Builtin.Str.strSliceIndices none none (-1) z.length).filterMap (z.cps[·]?)).toArray⟩) (EP X pins σ Q) _
  rw [if_neg (by simp), back_ix, back_all]
  have hl : (revS z).length ≤ sizeLine := by
    show (z.cps.toList.reverse.toArray).size ≤ sizeLine
    rw [List.size_toArray, List.length_reverse]
    exact hz
  exact ⟨hl, .str (revS z), H4, I5.tok _, ⟨_, rfl⟩, q⟩
end
end My
namespace My
open PySem PySem.Spec PyProof.Rows L2
/-- a new object changes nothing that stands -/
theorem same_upd {H : Hp} {p : Addr} {o : HO} (h : H p = none) : Same H (upd H p o) := fun b x e => by
  rw [upd_ne (ne_of_none e h)]
  exact e
theorem Same.tup {K : PySem.W.Frag} {H H' : Hp} {a : Addr} {xs : List V} (e : Same H H') (h : SqT K H a xs) : SqT K H' a xs := by
  rcases h with (h | ⟨o, h⟩) | h
  · exact .inl (.inl (e _ _ h))
  · exact .inl (.inr ⟨o, e _ _ h⟩)
  · exact .inr h
/-- the box of the draws: two whole numbers -/
def B2 (H : Hp) (b : Addr) : Prop := ∃ g r : Int, H b = some (.lst [.int g, .int r])
/-- behind some draws: all but the box stands as it stood, the box holds two whole numbers -/
structure Dr (b : Addr) (H H' : Hp) : Prop where
  kp : ∀ a o, a ≠ b → H a = some o → H' a = some o
  bx : B2 H' b
theorem Dr.trans {b : Addr} {H H1 H2 : Hp} (x : Dr b H H1) (y : Dr b H1 H2) : Dr b H H2 := ⟨fun a o n e => y.kp a o n (x.kp a o n e), y.bx⟩
theorem Dr.refl {b : Addr} {H : Hp} (x : B2 H b) : Dr b H H := ⟨fun _ _ _ e => e, x⟩
theorem Dr.same {b : Addr} {H H1 : Hp} (x : B2 H b) (y : Same H H1) : Dr b H H1 := ⟨fun a o _ e => y a o e, let ⟨g, r, e⟩ := x; ⟨g, r, y _ _ e⟩⟩
theorem Dr.put {b : Addr} {H : Hp} (g r : Int) : Dr b H (upd H b (.lst [.int g, .int r])) := ⟨fun a o n e => by rw [upd_ne n]; exact e, g, r, upd_same⟩
theorem Dr.free {b p : Addr} {H H' : Hp} (x : Dr b H H') (h : H' p = none) : H p = none := by
  cases q : H p with
  | none => rfl
  | some o =>
    by_cases e : p = b
    · obtain ⟨g, r, z⟩ := x.bx
      rw [e, z] at h
      cases h
    · rw [x.kp p o e q] at h
      cases h
theorem Dr.sqL {K : PySem.W.Frag} {b a : Addr} {H H' : Hp} {xs : List V} (x : Dr b H H') (n : a ≠ b) (h : SqL K H a xs) : SqL K H' a xs := by
  rcases h with (h | ⟨o, h⟩) | h
  · exact .inl (.inl (x.kp _ _ n h))
  · exact .inl (.inr ⟨o, x.kp _ _ n h⟩)
  · exact .inr h
theorem Dr.sqT {K : PySem.W.Frag} {b a : Addr} {H H' : Hp} {xs : List V} (x : Dr b H H') (n : a ≠ b) (h : SqT K H a xs) : SqT K H' a xs := by
  rcases h with (h | ⟨o, h⟩) | h
  · exact .inl (.inl (x.kp _ _ n h))
  · exact .inl (.inr ⟨o, x.kp _ _ n h⟩)
  · exact .inr h
/-- a new address is not the box -/
theorem B2.ne {b p : Addr} {H : Hp} (x : B2 H b) (h : H p = none) : p ≠ b := fun e => by
  obtain ⟨g, r, z⟩ := x
  rw [e, z] at h
  cases h
theorem str_ext {a b : Str} (h : a.cps.toList = b.cps.toList) : a = b := by
  cases a with | mk x => cases b with | mk y =>
  exact congrArg Str.mk (Array.toList_inj.mp h)
/-- joined without a sign between -/
theorem join_nil : ∀ ys : List Str, (Txt.join ⟨#[]⟩ ys).cps.toList = (ys.map fun y => y.cps.toList).flatten := by
  have gen : ∀ ys : List Str, (Str.join ⟨#[]⟩ ys).cps.toList = (ys.map fun y => y.cps.toList).flatten := by
    intro ys
    induction ys with
    | nil => rfl
    | cons y r ih =>
      cases r with
      | nil => show y.cps.toList = ([y.cps.toList]).flatten; simp
      | cons z r =>
        show ((y.cps ++ #[]) ++ (Str.join ⟨#[]⟩ (z :: r)).cps).toList = _
        rw [Array.toList_append, ih]
        simp
  intro ys
  rw [show Txt.join ⟨#[]⟩ ys = Str.join ⟨#[]⟩ ys from PySem.StrLaws.glued_eq_join _ ys]
  exact gen ys
theorem len_cps (z : Str) : z.cps.toList.length = z.length := by
  rw [Array.length_toList]
  rfl
theorem app_cps (x y : Str) : (x ++ y).cps.toList = x.cps.toList ++ y.cps.toList := by
  show (x.cps ++ y.cps).toList = _
  rw [Array.toList_append]
theorem rev_cps (x : Str) : (revS x).cps.toList = x.cps.toList.reverse := by
  show x.cps.toList.reverse.toArray.toList = _
  simp
theorem app_len (x y : Str) : (x ++ y).length = x.length + y.length := by
  rw [← len_cps, app_cps, List.length_append, len_cps, len_cps]
theorem rev_len (x : Str) : (revS x).length = x.length := by
  rw [← len_cps, rev_cps, List.length_reverse, len_cps]
theorem at_some {xs : List V} {k : Int} (h0 : 0 ≤ k) (h1 : k < xs.length) : ∃ v, atI xs k = some v ∧ v ∈ xs := by
  have hk : k.toNat < xs.length := by omega
  refine ⟨xs[k.toNat], ?_, List.getElem_mem hk⟩
  have e : atI xs ((k.toNat : Nat) : Int) = some xs[k.toNat] := atI_nat (List.getElem?_eq_getElem hk)
  rw [show ((k.toNat : Nat) : Int) = k by omega] at e
  exact e
theorem at_ints {ns : List Int} {k : Int} (h0 : 0 ≤ k) (h1 : k < ns.length) : ∃ n : Int, atI (ns.map V.int) k = some (V.int n) := by
  obtain ⟨v, e, m⟩ := at_some (xs := ns.map V.int) h0 (by rw [List.length_map]; exact h1)
  obtain ⟨n, _, rfl⟩ := List.mem_map.mp m
  exact ⟨n, e⟩
theorem le_line {n : Nat} (h : Nat.ble n 1000 = true) : n ≤ sizeLine := by
  rw [sizeLine_eq]
  exact Nat.le_trans (Nat.le_of_ble_eq_true h) (by decide)
theorem le_lineN {n : Nat} (h : n ≤ 1000000) : n ≤ sizeLine := by
  rw [sizeLine_eq]
  exact Nat.le_trans h (by decide)
/-- texts of one sign each, of the signs of z -/
def OneOf (z : Str) (y : Str) : Prop := ∃ c, c ∈ z.cps.toList ∧ y = ⟨#[c]⟩
theorem sgn_mem {z : Str} {v : V} (h : v ∈ sgn z) : ∃ y : Str, v = .str y ∧ OneOf z y := by
  obtain ⟨c, hc, rfl⟩ := List.mem_map.mp h
  exact ⟨⟨#[c]⟩, rfl, c, hc, rfl⟩
theorem ones_len {z : Str} : ∀ {ys : List Str}, (∀ y ∈ ys, OneOf z y) → (ys.map (·.length)).sum = ys.length
  | [], _ => rfl
  | y :: r, h => by
    obtain ⟨c, _, e⟩ := h y (List.mem_cons_self ..)
    have ih := ones_len (ys := r) fun x hx => h x (List.mem_cons_of_mem _ hx)
    rw [List.map_cons, List.sum_cons, ih, e, List.length_cons]
    show 1 + r.length = r.length + 1
    omega
theorem ones_join {z : Str} {ys : List Str} (h : ∀ y ∈ ys, OneOf z y) : (Txt.join ⟨#[]⟩ ys).length = ys.length ∧ ∀ c ∈ (Txt.join ⟨#[]⟩ ys).cps.toList, c ∈ z.cps.toList := by
  constructor
  · rw [← len_cps, join_nil, List.length_flatten, List.map_map]
    rw [← ones_len h]
    refine congrArg List.sum (List.map_congr_left fun y _ => ?_)
    exact len_cps y
  · intro c hc
    rw [join_nil] at hc
    obtain ⟨l, hl, hcl⟩ := List.mem_flatten.mp hc
    obtain ⟨y, hy, rfl⟩ := List.mem_map.mp hl
    obtain ⟨d, hd, e⟩ := h y hy
    rw [e] at hcl
    have : c = d := by simpa using hcl
    rw [this]
    exact hd
end My
namespace My
open PySem PySem.Spec PyProof.Rows L2
/-! A def's promise at ONE place of call (so that what runs around it is known), and the law's end by it; repr of data -/
section
variable {P : Program} {w : World} {K : PySem.W.Frag} {mg : Str → Option Value} {base : Heap}
def FnAt (P : Program) (w : World) (K : PySem.W.Frag) (mg : Str → Option Value) (base : Heap) (A : Around) (f : Addr) (fd : FuncData) (ps : List Str) (sp : Sp) : Prop :=
  ∀ (outer : List Env) (s : Shared) (H : Hp) (args : Args) (us : List Value) (vs : List V) (Q : VK) (E : XK),
    Env0 P w K mg base A outer s H → BindsTo s fd args (ps.zip us) → Vals vs us → sp vs H Q E →
    codeAny (model P w) A (.call (.ref f) args) (CR CX0 outer P w H s Q E) s
/-- by its body, at this place -/
theorem Fun.at {x qual : Str} {st : Stmt} {f : Addr} {fd : FuncData} {N ps : List Str} {k : Nat} {sp : Sp} {A : Around}
    (F : Fun K x qual st f fd) (S : FnScope N ps (defScope st)) (hr : Room (k + 1) A)
    (len : ∀ vs H Q E, sp vs H Q E → vs.length = ps.length)
    (body : ∀ (cdv : Value) (outer : List Env) (s : Shared) (H : Hp) (vs : List V) (Q : VK) (E : XK),
      Room k (A.deeper (envOfC qual (defScope st) s.heap.objs.size f cdv)) → sp vs H Q E →
      ∃ t, PSs (cxOf CX0 P w K mg base N qual (defScope st) f cdv A outer s H E).nox (defBody st) t ∧
        t { nx := fun _ H' => Q .non H', rt := Q } (start N vs) H) : FnAt P w K mg base A f fd ps sp := by
  intro outer s H args us vs Q E e0 hb rv hsp
  obtain ⟨oc, od, kV, doc, pm, an, cdv, ct, osl, e1, lk, hcd⟩ := F.ex
  subst e1
  have hl := len _ _ _ _ hsp
  have old : ∀ b o, base.get? b = some o → s.heap.get? b = some o := fun b o e => (e0.bs b o e).1
  have KX : K.In s.heap := e0.mod.kin.keeps old
  have par : ∀ y ∈ ps.zip us, (defScope st).names.lookup y.1 = some .local ∨
      ((defScope st).names.lookup y.1 = some .cell ∧ ((cellsFrom (s.heap.objs.size + 1) (defScope st).names []).lookup y.1).isSome = true) := by
    intro y hy
    have hm : y.1 ∈ ps := (List.of_mem_zip (show (y.1, y.2) ∈ ps.zip us from hy)).1
    cases S.par _ hm with
    | inl q => exact Or.inl q
    | inr q => exact Or.inr ⟨q, PySem.W.cellsFrom_some _ _ _ (Or.inl q)⟩
  refine codeAny_call_function hr.depth (KX _ _ lk) rfl S.co S.gen rfl
    (PySem.W.codeRec_of KX hcd) (hb _ _ _ _ ?_)
  refine wpAny_newFunctionEnv_cells S.kind par fun env he s1 xi => ?_
  subst he
  refine ⟨(e0.mod.nolimit.keeps old).keeps xi.toInCall.keep, codeAny_func ?_⟩
  obtain ⟨t, ht, hq⟩ := body cdv outer s H vs Q E (hr.deeper _) hsp
  have I0 := inv_start (CX := CX0) (E := E) S hr.hd e0 hl rv xi
  refine wpAny_mono (ht.nox.run [] s1 (start N vs) H _ I0 hq) ?_ (fun e s' hs => hs)
  intro fl s' hs
  match fl, hs with
  | .ret u, ⟨v, σ', H', J, ru, q⟩ => exact ⟨v, H', J.os, J.bare, J.base, J.hok, ru, q⟩
  | .next, ⟨σ', H', J, q⟩ => exact ⟨V.non, H', J.os, J.bare, J.base, J.hok, rfl, q⟩
  | .brk, ⟨_, _, _, q⟩ => exact q.elim
  | .cont, ⟨_, _, _, q⟩ => exact q.elim
end
/-- the law's call, from its promise at the law's own place -/
theorem law_at {P : Program} {w : World} {K : PySem.W.Frag} {mg mb : Str → Option Value} {fa a : Addr} {fd : FuncData} {x : Str} {sp : Sp}
    {s1 : Shared} {vs : List Value} {ns : List Int} (KX : K.In s1.heap) (hns : s1.heap.Ns mainGlobals mg) (hb : s1.heap.Ns builtinsNs mb)
    (hbb : ∀ x : Str, x ≠ "__name__" → mb x = bootBuiltins x) (lim : s1.heap.NoLimit) (hg : s1.gens = #[])
    (ha : s1.heap.get? a = some { cls := .type "list", data := .seq vs.toArray }) (hi : IntsAre vs ns) (hl : ns.length ≤ sizeLine)
    (F : ∀ base : Heap, K.In base → base.Ns mainGlobals mg → FnAt P w K mg base callerA fa fd [x] sp)
    (bind : ∀ (s : Shared) (u : Value), BindsTo s fd ⟨[u], []⟩ [(x, u)])
    (hsp : ∀ H : Hp, Only H → SqL K H a (ns.map V.int) → sp [.ref a] H (fun v _ => v = .bl true) fun _ _ _ => False) :
    codeAny (model P w) callerA (.call (.ref fa) ⟨[.ref a], []⟩)
      (fun r s' => r = .ok (.ret (.bool true)) ∧ OldK s1.heap s'.heap ∧ s'.os = s1.os ∧ AllBare s'.gens) s1 := by
  have rv : Vals (ns.map V.int) vs := vals_ints hi
  -- an abstract heap that tracks at most the script, locked
  suffices key : ∃ H : Hp, Only H ∧ SqL K H a (ns.map V.int) ∧ HOk P w H s1.heap ∧ (∀ b u, H b = some u → b = a ∧ K.lookup a = none) by
    obtain ⟨H, only, sq, ok, at1⟩ := key
    have untracked : ∀ {b : Addr} {o : Obj}, s1.heap.get? b = some o → (b = a → o ≠ { cls := .type "list", data := .seq vs.toArray }) → H b = none := by
      intro b o e ne
      match q : H b with
      | none => rfl
      | some u =>
        have e2 := (at1 b u q).1
        subst e2
        exact absurd (Option.some.inj (e.symm.trans ha)) (ne rfl)
    have nsB : ∀ {b : Addr} {m : Str → Option Value}, s1.heap.Ns b m → (hidT s1.heap H).Ns b m := by
      intro b m h
      obtain ⟨o, es, ep, e, d, r⟩ := h
      refine ⟨o, es, ep, hidT_get e (untracked e fun _ z => ?_), d, r⟩
      subst z
      exact nomatch d
    have KB : K.In (hidT s1.heap H) := by
      intro b o e
      refine hidT_get (KX b o e) ?_
      match q : H b with
      | none => rfl
      | some u =>
        obtain ⟨e1, e2⟩ := at1 b u q
        subst e1
        rw [e2] at e
        exact nomatch e
    have M : Mod K mg (hidT s1.heap H) := by
      obtain ⟨mc, l1, l2⟩ := lim
      exact ⟨KB, nsB hns, ⟨mb, nsB hb, hbb⟩, ⟨mc, nsB l1, l2⟩⟩
    have no : ∀ b : Addr, b ∉ ([] : List Addr) := fun b z => nomatch z
    have e0 : Env0 P w K mg (hidT s1.heap H) callerA [] s1 H :=
      ⟨rfl, M, fun b o e => of_hidT e, Nat.le_of_eq (hidT_size _ _), trivial, fun b z => (no b z).elim, ok, .of_eq hg⟩
    refine codeAny_mono (F _ KB (nsB hns) [] s1 H _ [.ref a] [.ref a] _ _ e0 (bind s1 (.ref a)) (.cons rfl .nil) (hsp H only sq)) ?_
    intro r s' h
    match r, h with
    | .ok (.ret u), ⟨v, H', os, bare, un, ok', ru, q⟩ =>
      have q' : v = V.bl true := q
      subst q'
      have ru' : u = Value.bool true := ru
      refine ⟨by rw [ru'], OldK.of_keep ?_, os, bare⟩
      intro b o e
      match q : H b with
      | none => exact un.keep b o e q (no b) (no b)
      | some u' =>
        cases only b with
        | inl z => rw [q] at z; exact nomatch z
        | inr z =>
          obtain ⟨ob, xs, z⟩ := z
          have k1 := (ok b _ z).1
          have k2 := (ok' b _ (un.frzs b ob _ z)).1
          rw [← Option.some.inj (k1.symm.trans e)]
          exact k2
  match hk : K.lookup a with
  | some o =>
    have e := Option.some.inj ((KX a o hk).symm.trans ha)
    subst e
    exact ⟨fun _ => none, fun _ => Or.inl rfl, Or.inr ⟨_, vs.toArray, _, hk, rfl, rfl, rfl, by rw [List.size_toArray, hi.length]; exact hl, by simpa using rv⟩,
      (fun b u z => nomatch (show (none : Option HO) = some u from z)), fun b u z => nomatch (show (none : Option HO) = some u from z)⟩
  | none =>
    let fz : HO := .frz { cls := .type "list", data := .seq vs.toArray } (.lst (ns.map V.int))
    have off : ∀ b u, (if b = a then some fz else none) = some u → b = a ∧ u = fz := by
      intro b u z
      by_cases q : b = a
      · rw [if_pos q] at z
        exact ⟨q, (Option.some.inj z).symm⟩
      · rw [if_neg q] at z
        exact nomatch z
    refine ⟨fun b => if b = a then some fz else none, ?_, Or.inl (Or.inr ⟨_, if_pos rfl⟩), ?_, fun b u z => ⟨(off b u z).1, rfl⟩⟩
    · intro b
      by_cases q : b = a
      · exact Or.inr ⟨_, _, if_pos q⟩
      · exact Or.inl (if_neg q)
    · intro b u z
      obtain ⟨e1, e2⟩ := off b u z
      subst e1 e2
      exact ⟨ha, by rw [List.length_map]; exact hl, vs, _, rv, ha⟩
/-- what k_head leaves, by it -/
theorem walk_at_ {l : PySem.W.OpenLaw} {n : Nat} {q : Program} {loose : List Str} {XP : (Str → Option Value) → Heap → Prop} {YP : World → Heap → Prop} {d : DefRec}
    {K : Params → PySem.W.Frag} {sp : World → Sp} {x : Str} (hn : l.most = some n) (hn2 : n ≤ sizeLine) (hdf : d.params.defaults = [])
    (hY : ∀ (w : World) (h : Heap), YP w h → (K w.params).In h)
    (F : ∀ (w : World) (mg : Str → Option Value) (fa : Addr) (h : Heap), (K w.params).In h → h.Ns mainGlobals mg → mg d.name = some (.ref fa) →
      ∃ fd : FuncData, (∀ (s : Shared) (u : Value), BindsTo s fd ⟨[u], []⟩ [(x, u)]) ∧
        ∀ base : Heap, (K w.params).In base → base.Ns mainGlobals mg → FnAt l.prog w (K w.params) mg base callerA fa fd [x] (sp w))
    (hsp : ∀ (w : World) (H : Hp) (a : Addr) (ns : List Int), ns.length ≤ n → Only H → SqL (K w.params) H a (ns.map V.int) →
      sp w [.ref a] H (fun v _ => v = .bl true) fun _ _ _ => False) :
    PySem.W.WalkO q loose XP YP l.row.toRowW d [] (fun f vs => PySem.call f vs) := by
  refine Att.attach_call hn hdf ?_
  intro w s0 s1 mg mb fa o pm cd doc a vs ns G Y ho hd hcd hmg hobj hints hlen hg
  obtain ⟨fd, hb, hF⟩ := F w mg fa _ (hY w _ Y) G.T.g hmg
  exact law_at (hY w _ Y) G.T.g G.T.b G.T.builtins G.T.nolimit hg hobj hints (Nat.le_trans hlen hn2) hF hb
    (fun H hO hS => hsp w H a ns hlen hO hS)
section
variable {X : Cx}
/-- repr(x), x data, where no repr is under way -/
theorem cr_reprD (hg : X.A.guards = some []) (hu : X.A.units + 66 < cLine) :
    CallR X (.builtin "repr") (fun xs H Q => ∃ (x : V) (d : PyData), xs = [x] ∧ Dp X.K H x d ∧ SeqAt.shaped d = true ∧ d.showable = true ∧ d.shown.length ≤ sizeLine ∧ Q (.str d.shown) H) := by
  intro pins s σ H xs us Q I r h
  obtain ⟨x, d, rfl, hd, sd, sh, hz, q⟩ := h
  obtain ⟨u, rfl, ru⟩ := vals1 r
  obtain ⟨as, rd⟩ := Dp.reads I d x u hd ru
  have hdp := SeqAt.depth_of_shaped sd
  have fin : ∀ (h' : Heap) (t : Tok) (k : Nat), (∀ b o, s.heap.get? b = some o → h'.get? b = some o) → EP X pins σ Q (.str d.shown t) { s with heap := h', toks := k } :=
    fun h' t k kp => ⟨.str d.shown, H, I.kept kp, ⟨t, rfl⟩, q⟩
  cases hd with
  | non => cases ru; exact PySem.P.repr_of_none (fin s.heap _ _ fun _ _ e => e)
  | bl b => cases ru; exact PySem.P.repr_of_bool (fin s.heap _ _ fun _ _ e => e)
  | int i =>
    obtain ⟨t, rfl⟩ := ru
    exact PySem.P.repr_of_int (of_decide_eq_true sh) (fin s.heap _ _ fun _ _ e => e)
  | str z =>
    obtain ⟨t, rfl⟩ := ru
    exact PySem.P.repr_of_str (hsz := hz) (fin s.heap _ _ fun _ _ e => e)
  | lst a b =>
    cases ru
    exact repr_of_reads' rd sh (PyData.noDict_hsm (PyData.hasDict_of_canLay _ (SeqAt.canLay_of_shaped sd))) hg (by omega) (fun _ _ e => e) (fun h' t k kp => fin h' t k kp) (hsz := hz)
  | tup a b =>
    cases ru
    exact repr_of_reads' rd sh (PyData.noDict_hsm (PyData.hasDict_of_canLay _ (SeqAt.canLay_of_shaped sd))) hg (by omega) (fun _ _ e => e) (fun h' t k kp => fin h' t k kp) (hsz := hz)
end
end My
namespace My
open PySem PySem.Spec PyProof.Rows L2
section
variable {X : Cx} {CX : CXT} {k : Nat} {f C : Addr} {fd : FuncData} {ps : List Str} {sp : Sp} {x : Str} {p pos : Pos} {e : Expr} {es : List Expr} {t : TA} {ds : List Value} {dvs : List V}
/-- C(e, ..) where what the maker raises is wished for at the caller's slots -/
def tMakeS (C : Addr) (sp : Sp) (dvs : List V) (E : L2.St → XK) (t : TA) : TE := fun σ H Q => t σ H fun vs H1 =>
  ∀ x dx, H1 x = none → H1 dx = none → dx ≠ x → sp (.ref x :: (vs ++ dvs)) (upd (upd H1 dx (.own x)) x (.ins C dx [])) (fun v H2 => v = .non ∧ Q (.ref x) H2) (E σ)
theorem pe_makeS {E : L2.St → XK} (M : Mk X.K C f) (F : FnOk X.prog X.w X.K X.mg X.base CX k f fd ps sp) (hr : Room (k + 1) X.A) (hg : Gl X x) (hm : X.mg x = some (.ref C))
    (hb : Binds X.K fd ps ds) (hd : Vals dvs ds) (hx : ∀ σ, PassesAt CX X σ (E σ)) (ha : PA X (e :: es) t) (hdb : (x == ("__debug__" : Str)) = false := by decide)
    (he : starEach (e :: es) X.env = (false, eval e X.env) :: starEach es X.env := by rfl) (hpl : (backTo pos (starEach es X.env)).any (·.1) = false := by rfl) :
    PE X (.Call (.Name x p) (e :: es) [] pos) (tMakeS C sp dvs E t) := by
  refine ⟨fun pins s0 σ H0 Q I0 h => wpAny_Call_Name_kw (ld_glob I0 hg hm ?_ hdb)⟩
  refine PySem.W.callWith_K (h₀ := X.base) I0.ok.mod.kin M.kp (thn (ha.run pos pins s0 σ H0 _ I0 h) ?_) he hpl
  intro us s z
  obtain ⟨vs, H, I, r, q⟩ := z
  refine ⟨I.kIn, ?_⟩
  have new : ∀ n, s.heap.objs.size ≤ n → H n = none := fun n hn => I.hok.fresh hn
  have hq := q (s.heap.objs.size + 1) s.heap.objs.size (new _ (Nat.le_succ _)) (new _ (Nat.le_refl _)) (Nat.ne_of_lt (Nat.lt_succ_self _))
  have J := Inv.made (C := C) I
  have rr : Vals (V.ref (s.heap.objs.size + 1) :: (vs ++ dvs)) (Value.ref (s.heap.objs.size + 1) :: (us ++ ds)) := .cons rfl (r.append hd)
  have hl : ((Value.ref (s.heap.objs.size + 1) :: us) ++ ds).length = ps.length := (F.len _ _ _ _ hq ▸ rr.length).symm
  refine wpAny_call (make_map (f := f) I.kIn M.makes M.init (beq_iff_eq.mp M.fn) (codeAny_mono
    (F.run _ X.stack _ _ ⟨Value.ref (s.heap.objs.size + 1) :: us, []⟩ _ _ _ (E σ) (hr.make C us []) (J.env0.make C us []) (hb _ (Value.ref (s.heap.objs.size + 1) :: us) J.kIn hl) rr hq) ?_))
  intro res s' z
  match res, z with
  | .error er, z => exact hx σ pins _ _ er s' J z
  | .ok (.ret u), z =>
    obtain ⟨v, H', J', rv, z⟩ := J.after z
    obtain ⟨ev, z⟩ := z
    subst ev
    exact ⟨rv, V.ref (s.heap.objs.size + 1), H', J', rfl, z⟩
end
def Abc (y : Str) : Prop := ∀ c ∈ y.cps.toList, c < 128
/-! any values, as far as their types go -/
inductive Tg where
  | non | bl | int | str | lst | tup
  deriving DecidableEq
def Tg.is : Tg → String → Bool
  | .bl, "bool" => true
  | .bl, "int" => true
  | .int, "int" => true
  | .str, "str" => true
  | .lst, "list" => true
  | .tup, "tuple" => true
  | _, _ => false
inductive Av (H : Hp) : V → Tg → Prop
  | non : Av H .non .non
  | bl (b : Bool) : Av H (.bl b) .bl
  | int (i : Int) : Av H (.int i) .int
  | str (z : Str) (h : Abc z ∧ z.length ≤ 1000) : Av H (.str z) .str
  | lst {a : Addr} {xs : List V} (e : H a = some (.lst xs)) : Av H (.ref a) .lst
  | tup {a : Addr} {xs : List V} (e : H a = some (.tup xs)) : Av H (.ref a) .tup
theorem Av.same {H H' : Hp} {x : V} {t : Tg} (h : Av H x t) (s : Same H H') : Av H' x t := by
  cases h with
  | non => exact .non
  | bl b => exact .bl b
  | int i => exact .int i
  | str z h => exact .str z h
  | lst e => exact .lst (s _ _ e)
  | tup e => exact .tup (s _ _ e)
theorem Av.kit {K : PySem.W.Frag} {H : Hp} {x : V} {t : Tg} (h : Av H x t) {T : String} (hT : T = "int" ∨ T = "bool" ∨ T = "str" ∨ T = "list" ∨ T = "tuple") :
    ∃ ty : Value, TyX K H x ty ∧ PySem.W.kitOne K ty (.type T) = some (t.is T) := by
  cases h with
  | non => refine ⟨_, .base .non, ?_⟩; rcases hT with rfl | rfl | rfl | rfl | rfl <;> exact kit_ty (by decide +kernel)
  | bl b => refine ⟨_, .base (.bl b), ?_⟩; rcases hT with rfl | rfl | rfl | rfl | rfl <;> exact kit_ty (by decide +kernel)
  | int i => refine ⟨_, .base (.int i), ?_⟩; rcases hT with rfl | rfl | rfl | rfl | rfl <;> exact kit_ty (by decide +kernel)
  | str z h => refine ⟨_, .base (.str z), ?_⟩; rcases hT with rfl | rfl | rfl | rfl | rfl <;> exact kit_ty (by decide +kernel)
  | lst e => refine ⟨_, .base (.lst e), ?_⟩; rcases hT with rfl | rfl | rfl | rfl | rfl <;> exact kit_ty (by decide +kernel)
  | tup e => refine ⟨_, .base (.tup e), ?_⟩; rcases hT with rfl | rfl | rfl | rfl | rfl <;> exact kit_ty (by decide +kernel)
/-- isinstance(x, T), x any value -/
def rIsA : List V → Hp → VK → Prop := fun xs H Q => ∃ (x : V) (T : String) (t : Tg), xs = [x, .ty T] ∧ (T = "int" ∨ T = "bool" ∨ T = "str" ∨ T = "list" ∨ T = "tuple") ∧ Av H x t ∧ Q (.bl (t.is T)) H
theorem cr_isA {X : Cx} : CallR X (.builtin "isinstance") rIsA := by
  intro pins s σ H xs us Q I r h
  obtain ⟨x, T, t, rfl, hT, av, q⟩ := h
  obtain ⟨ty, h1, h2⟩ := av.kit (K := X.K) hT
  exact call_isi pins s σ H _ us Q I r ⟨x, .ty T, ty, .type T, t.is T, rfl, .ty T, h1, h2, q⟩
/-- isinstance(e, c), e the caught exception, with its own dict -/
def rIsX (K : PySem.W.Frag) (a : Addr) (cls : Value) (d : Option Addr) : List V → Hp → VK → Prop := fun xs H Q => ∃ (D dd : Addr) (fs : List (Str × V)) (c : V) (cv : Value) (b : Bool),
  xs = [.ref a, c] ∧ cls = .ref D ∧ d = some dd ∧ H dd = some (.xd fs) ∧ ExcC K D ∧ (∀ u, RelV c u → u = cv) ∧ PySem.W.kitOne K (.ref D) cv = some b ∧ Q (.bl b) H
theorem cr_isX {X : Cx} {a : Addr} {oe : Obj} {cls : Value} {d : Option Addr} {pn : List (Addr × Obj)} (hz : Zc cls d oe) (hf : ∃ vs, oe.data = .fields vs) :
    CallR (X.suite a ((a, oe) :: pn)) (.builtin "isinstance") (rIsX X.K a cls d) := by
  intro pins s σ H xs us Q I r h
  obtain ⟨D, dd, fs, c, cv, b, rfl, ec, ed, ea, C, hcv, e, q⟩ := h
  subst ec ed
  cases r with
  | cons rx rr => cases rr with
    | cons rt rr =>
      cases rr
      cases rx
      have ev := hcv _ rt
      subst ev
      obtain ⟨hget, _⟩ := I.pin (a, oe) (List.mem_append.mpr (.inl List.mem_cons_self))
      obtain ⟨vs, hv⟩ := hf
      have hx : ObjOk X.prog X.w H s.heap dd (.xd fs) := I.hok dd _ ea
      obtain ⟨mA, hns, hr⟩ := hx
      obtain ⟨od, ho, hl⟩ := lookIn_ns hns
      have J : PySem.W.InstAt s.heap a oe D (some od) := ⟨hget, hz.1, by unfold PySem.W.notCls; rw [hv] <;> rfl, by rw [hz.2]; exact ho⟩
      have cl : (PySem.W.clsIn X.K D).isSome = true := by
        obtain ⟨cd, hc, _⟩ := PySem.W.any_some C.hd
        rw [hc]
        rfl
      exact PySem.W.kia_one (PySem.W.kitx_exc cl C.hg C.hk C.hs C.ha C.hn C.ht C.hm) I.kIn J e (fun z => nomatch z) fun tk => ⟨.bl b, H, I.kept (t' := tk) fun _ _ z => z, rfl, q⟩
/-- all(xs), any(xs), of bools: as the library has them. The words of a text's signs -/
def wordB (z : Str) : Bool := z.cps.toList.all fun c => decide (97 ≤ c ∧ c ≤ 122)
def isNum : V → Bool
  | .int i => decide (0 ≤ i)
  | _ => false
def isWord : V → Bool
  | .str z => wordB z
  | _ => false
/-- 'a' <= one sign <= 'z' by the texts' order -/
theorem sign_le (lo c : Nat) : (!decide ((⟨#[c]⟩ : Str).cps.toList < [lo])) = decide (lo ≤ c) := by
  have e : ((⟨#[c]⟩ : Str).cps.toList < [lo]) ↔ c < lo := by
    show ([c] < [lo]) ↔ _
    rw [List.cons_lt_cons_iff]
    exact ⟨fun h => h.elim id fun h => absurd h.2 (List.lt_irrefl []), Or.inl⟩
  by_cases h : lo ≤ c
  · rw [decide_eq_true h, decide_eq_false (fun z => by have := e.mp z; omega)]
    rfl
  · rw [decide_eq_false h, decide_eq_true (e.mpr (by omega))]
    rfl
theorem sign_ge (hi c : Nat) : (!decide ([hi] < (⟨#[c]⟩ : Str).cps.toList)) = decide (c ≤ hi) := by
  have e : ([hi] < (⟨#[c]⟩ : Str).cps.toList) ↔ hi < c := by
    show ([hi] < [c]) ↔ _
    rw [List.cons_lt_cons_iff]
    exact ⟨fun h => h.elim id fun h => absurd h.2 (List.lt_irrefl []), Or.inl⟩
  by_cases h : c ≤ hi
  · rw [decide_eq_true h, decide_eq_false (fun z => by have := e.mp z; omega)]
    rfl
  · rw [decide_eq_false h, decide_eq_true (e.mpr (by omega))]
    rfl
end My

namespace My
open PySem PySem.Spec PyProof.Rows L2

def topS (i : Nat) : Stmt := PySem.Challenge.pw_growntexts_k03_settings_refused.main.body.getD i (.Pass ⟨0, 0, 0, 0⟩)
abbrev s_is_integer : Stmt := topS 2
abbrev N_is_integer : List Str := ["value"]
theorem sc_is_integer : FnScope N_is_integer ["value"] (defScope s_is_integer) :=
  ⟨rfl, rfl, rfl, by decide +kernel, rfl, by decide +kernel, by decide +kernel⟩
abbrev s_is_number : Stmt := topS 3
abbrev N_is_number : List Str := ["value"]
theorem sc_is_number : FnScope N_is_number ["value"] (defScope s_is_number) :=
  ⟨rfl, rfl, rfl, by decide +kernel, rfl, by decide +kernel, by decide +kernel⟩
abbrev s_is_word : Stmt := topS 4
abbrev N_is_word : List Str := ["value", "sign"]
theorem sc_is_word : FnScope N_is_word ["value"] (defScope s_is_word) :=
  ⟨rfl, rfl, rfl, by decide +kernel, rfl, by decide +kernel, by decide +kernel⟩
abbrev s_first_wrong : Stmt := topS 13
abbrev N_first_wrong : List Str := ["source", "head", "tail", "is_turned", "has_source"]
theorem sc_first_wrong : FnScope N_first_wrong ["source", "head", "tail", "is_turned"] (defScope s_first_wrong) :=
  ⟨rfl, rfl, rfl, by decide +kernel, rfl, by decide +kernel, by decide +kernel⟩
abbrev s_InvalidSetting_init : Stmt := inClass (topS 8) 0
abbrev N_InvalidSetting_init : List Str := ["self", "word"]
theorem sc_InvalidSetting_init : FnScope N_InvalidSetting_init ["self", "word"] (defScope s_InvalidSetting_init) :=
  ⟨rfl, rfl, rfl, by decide +kernel, rfl, by decide +kernel, by decide +kernel⟩
abbrev s_Setting_init : Stmt := inClass (topS 12) 0
abbrev N_Setting_init : List Str := ["self", "source", "head", "tail", "is_turned", "word"]
theorem sc_Setting_init : FnScope N_Setting_init ["self", "source", "head", "tail", "is_turned"] (defScope s_Setting_init) :=
  ⟨rfl, rfl, rfl, by decide +kernel, rfl, by decide +kernel, by decide +kernel⟩
abbrev s_seed : Stmt := topS 15
abbrev N_seed : List Str := ["_law_script", "_law_k", "_law_cell", "_law_great"]
theorem sc_seed : FnScope N_seed ["_law_script", "_law_k"] (defScope s_seed) :=
  ⟨rfl, rfl, rfl, by decide +kernel, rfl, by decide +kernel, by decide +kernel⟩
abbrev s_choose : Stmt := topS 16
abbrev N_choose : List Str := ["_law_box", "_law_many", "_law_digit", "_law_raw"]
theorem sc_choose : FnScope N_choose ["_law_box", "_law_many"] (defScope s_choose) :=
  ⟨rfl, rfl, rfl, by decide +kernel, rfl, by decide +kernel, by decide +kernel⟩
abbrev s_one_of : Stmt := topS 17
abbrev N_one_of : List Str := ["_law_box", "_law_some"]
theorem sc_one_of : FnScope N_one_of ["_law_box", "_law_some"] (defScope s_one_of) :=
  ⟨rfl, rfl, rfl, by decide +kernel, rfl, by decide +kernel, by decide +kernel⟩
abbrev s_told : Stmt := topS 18
abbrev N_told : List Str := ["_law_box", "_law_marks", "_law_most", "_law_turn"]
theorem sc_told : FnScope N_told ["_law_box", "_law_marks", "_law_most"] (defScope s_told) :=
  ⟨rfl, rfl, rfl, by decide +kernel, rfl, by decide +kernel, by decide +kernel⟩
abbrev s_anything : Stmt := topS 19
abbrev N_anything : List Str := ["_law_box", "_law_deep", "_law_form", "_law_some", "_law_inner", "_law_turn"]
theorem sc_anything : FnScope N_anything ["_law_box", "_law_deep"] (defScope s_anything) :=
  ⟨rfl, rfl, rfl, by decide +kernel, rfl, by decide +kernel, by decide +kernel⟩
abbrev s_free : Stmt := topS 20
abbrev N_free : List Str := ["_law_box", "_law_marks", "_law_cell", "_law_ahead"]
theorem sc_free : FnScope N_free ["_law_box", "_law_marks"] (defScope s_free) :=
  ⟨rfl, rfl, rfl, by decide +kernel, rfl, by decide +kernel, by decide +kernel⟩
abbrev s_tried : Stmt := topS 21
abbrev N_tried : List Str := ["_law_given", "_law_found", "e"]
theorem sc_tried : FnScope N_tried ["_law_given"] (defScope s_tried) :=
  ⟨rfl, rfl, rfl, by decide +kernel, rfl, by decide +kernel, by decide +kernel⟩
abbrev s_is_plain : Stmt := topS 22
abbrev N_is_plain : List Str := ["_law_value", "_law_sign"]
theorem sc_is_plain : FnScope N_is_plain ["_law_value"] (defScope s_is_plain) :=
  ⟨rfl, rfl, rfl, by decide +kernel, rfl, by decide +kernel, by decide +kernel⟩
abbrev s_due : Stmt := topS 23
abbrev N_due : List Str := ["_law_given"]
theorem sc_due : FnScope N_due ["_law_given"] (defScope s_due) :=
  ⟨rfl, rfl, rfl, by decide +kernel, rfl, by decide +kernel, by decide +kernel⟩
abbrev s_law : Stmt := topS 24
abbrev N_law : List Str := ["_law_script", "_law_k", "_law_box", "_law_turn", "_law_given", "_law_more", "_law_odd"]
theorem sc_law : FnScope N_law ["_law_script"] (defScope s_law) :=
  ⟨rfl, rfl, rfl, by decide +kernel, rfl, by decide +kernel, by decide +kernel⟩
structure Ad where
  (f_is_integer f_is_number f_is_word f_first_wrong f_InvalidSetting_init f_Setting_init f_seed f_choose f_one_of f_told f_anything f_free f_tried f_is_plain f_due f_law : Addr)
  (d_is_integer d_is_number d_is_word d_first_wrong d_InvalidSetting_init d_Setting_init d_seed d_choose d_one_of d_told d_anything d_free d_tried d_is_plain d_due d_law : FuncData)
  (c_GrowError c_InvalidSetting c_InvalidProgram c_Setting : Addr)
structure Txt (K : PySem.W.Frag) (mg : Str → Option Value) (A : Ad) : Prop where
  g_is_integer : mg "is_integer" = some (.ref A.f_is_integer)
  k_is_integer : PySem.W.keepIn K (.ref A.f_is_integer) = true
  F_is_integer : Fun K "is_integer" "is_integer" s_is_integer A.f_is_integer A.d_is_integer
  b_is_integer : Binds K A.d_is_integer ["value"] []
  g_is_number : mg "is_number" = some (.ref A.f_is_number)
  k_is_number : PySem.W.keepIn K (.ref A.f_is_number) = true
  F_is_number : Fun K "is_number" "is_number" s_is_number A.f_is_number A.d_is_number
  b_is_number : Binds K A.d_is_number ["value"] []
  g_is_word : mg "is_word" = some (.ref A.f_is_word)
  k_is_word : PySem.W.keepIn K (.ref A.f_is_word) = true
  F_is_word : Fun K "is_word" "is_word" s_is_word A.f_is_word A.d_is_word
  b_is_word : Binds K A.d_is_word ["value"] []
  g_first_wrong : mg "first_wrong" = some (.ref A.f_first_wrong)
  k_first_wrong : PySem.W.keepIn K (.ref A.f_first_wrong) = true
  F_first_wrong : Fun K "first_wrong" "first_wrong" s_first_wrong A.f_first_wrong A.d_first_wrong
  b_first_wrong : Binds K A.d_first_wrong ["source", "head", "tail", "is_turned"] []
  k_InvalidSetting_init : PySem.W.keepIn K (.ref A.f_InvalidSetting_init) = true
  F_InvalidSetting_init : Fun K "__init__" "InvalidSetting.__init__" s_InvalidSetting_init A.f_InvalidSetting_init A.d_InvalidSetting_init
  b_InvalidSetting_init : Binds K A.d_InvalidSetting_init ["self", "word"] []
  F_Setting_init : FunD K "__init__" "Setting.__init__" (defArgs s_Setting_init) (defBody s_Setting_init) (defScope s_Setting_init) [.str Str.empty, .str Str.empty, .bl false] [] A.f_Setting_init A.d_Setting_init
  b_Setting_init : Binds K A.d_Setting_init ["self", "source", "head", "tail", "is_turned"] []
  g_seed : mg "_law_seed" = some (.ref A.f_seed)
  k_seed : PySem.W.keepIn K (.ref A.f_seed) = true
  F_seed : Fun K "_law_seed" "_law_seed" s_seed A.f_seed A.d_seed
  b_seed : Binds K A.d_seed ["_law_script", "_law_k"] []
  g_choose : mg "_law_choose" = some (.ref A.f_choose)
  k_choose : PySem.W.keepIn K (.ref A.f_choose) = true
  F_choose : Fun K "_law_choose" "_law_choose" s_choose A.f_choose A.d_choose
  b_choose : Binds K A.d_choose ["_law_box", "_law_many"] []
  g_one_of : mg "_law_one_of" = some (.ref A.f_one_of)
  k_one_of : PySem.W.keepIn K (.ref A.f_one_of) = true
  F_one_of : Fun K "_law_one_of" "_law_one_of" s_one_of A.f_one_of A.d_one_of
  b_one_of : Binds K A.d_one_of ["_law_box", "_law_some"] []
  g_told : mg "_law_told" = some (.ref A.f_told)
  k_told : PySem.W.keepIn K (.ref A.f_told) = true
  F_told : Fun K "_law_told" "_law_told" s_told A.f_told A.d_told
  b_told : Binds K A.d_told ["_law_box", "_law_marks", "_law_most"] []
  g_anything : mg "_law_anything" = some (.ref A.f_anything)
  k_anything : PySem.W.keepIn K (.ref A.f_anything) = true
  F_anything : Fun K "_law_anything" "_law_anything" s_anything A.f_anything A.d_anything
  b_anything : Binds K A.d_anything ["_law_box", "_law_deep"] []
  g_free : mg "_law_free" = some (.ref A.f_free)
  k_free : PySem.W.keepIn K (.ref A.f_free) = true
  F_free : Fun K "_law_free" "_law_free" s_free A.f_free A.d_free
  b_free : Binds K A.d_free ["_law_box", "_law_marks"] []
  g_tried : mg "_law_tried" = some (.ref A.f_tried)
  k_tried : PySem.W.keepIn K (.ref A.f_tried) = true
  F_tried : Fun K "_law_tried" "_law_tried" s_tried A.f_tried A.d_tried
  b_tried : Binds K A.d_tried ["_law_given"] []
  g_is_plain : mg "_law_is_plain" = some (.ref A.f_is_plain)
  k_is_plain : PySem.W.keepIn K (.ref A.f_is_plain) = true
  F_is_plain : Fun K "_law_is_plain" "_law_is_plain" s_is_plain A.f_is_plain A.d_is_plain
  b_is_plain : Binds K A.d_is_plain ["_law_value"] []
  g_due : mg "_law_due" = some (.ref A.f_due)
  k_due : PySem.W.keepIn K (.ref A.f_due) = true
  F_due : Fun K "_law_due" "_law_due" s_due A.f_due A.d_due
  b_due : Binds K A.d_due ["_law_given"] []
  g_law : mg "law" = some (.ref A.f_law)
  k_law : PySem.W.keepIn K (.ref A.f_law) = true
  F_law : Fun K "law" "law" s_law A.f_law A.d_law
  b_law : Binds K A.d_law ["_law_script"] []
  g_GrowError : mg "GrowError" = some (.ref A.c_GrowError)
  g_InvalidSetting : mg "InvalidSetting" = some (.ref A.c_InvalidSetting)
  o_InvalidSetting : OexC K A.c_InvalidSetting
  i_InvalidSetting : PySem.W.findIn K (.ref A.c_InvalidSetting) "__init__" = some (some (.ref A.f_InvalidSetting_init))
  t_InvalidSetting : PySem.W.typeIn K (.ref A.f_InvalidSetting_init) = some (.type "function")
  n_InvalidSetting : PySem.W.findIn K (.ref A.c_InvalidSetting) "word" = some none
  x_InvalidSetting : XfC K A.c_InvalidSetting
  e_InvalidSetting : ExcC K A.c_InvalidSetting
  s_InvalidSetting : PySem.W.exmOne K (.ref A.c_InvalidSetting) (.ref A.c_InvalidSetting) = some true
  g_InvalidProgram : mg "InvalidProgram" = some (.ref A.c_InvalidProgram)
  g_Setting : mg "Setting" = some (.ref A.c_Setting)
  cl_Setting : Cls K A.c_Setting
  m_Setting : Mk K A.c_Setting A.f_Setting_init
  n_Setting_source : NoAttr K A.c_Setting "source"
  n_Setting_head : NoAttr K A.c_Setting "head"
  n_Setting_tail : NoAttr K A.c_Setting "tail"
  n_Setting_is_turned : NoAttr K A.c_Setting "is_turned"
  is_InvalidSetting_GrowError : PySem.W.kitOne K (.ref A.c_InvalidSetting) (.ref A.c_GrowError) = some true
  is_InvalidSetting_InvalidProgram : PySem.W.kitOne K (.ref A.c_InvalidSetting) (.ref A.c_InvalidProgram) = some false
  z_abs : mg "abs" = none
  z_all : mg "all" = none
  z_bool : mg "bool" = none
  z_int : mg "int" = none
  z_isinstance : mg "isinstance" = none
  z_len : mg "len" = none
  z_list : mg "list" = none
  z_max : mg "max" = none
  z_min : mg "min" = none
  z_range : mg "range" = none
  z_repr : mg "repr" = none
  z_str : mg "str" = none
  z_tuple : mg "tuple" = none

def spSeed (K : PySem.W.Frag) : Sp := fun vs H Q _ => ∃ (a : Addr) (ns : List Int) (k : Int), vs = [.ref a, .int k] ∧ SqL K H a (ns.map V.int) ∧ ns.length ≤ 63 ∧ 0 ≤ k ∧ k ≤ 1000 ∧
  ∀ (p : Addr) (g r : Int), H p = none → Q (.ref p) (upd H p (.lst [.int g, .int r]))
def spChoose : Sp := fun vs H Q _ => ∃ (b : Addr) (m : Int), vs = [.ref b, .int m] ∧ B2 H b ∧ 0 < m ∧ m < 100000 ∧
  ∀ (d : Int) (H' : Hp), Dr b H H' → 0 ≤ d → d < m → (∀ p, H' p = none → H p = none) → Q (.int d) H'
def spOne (K : PySem.W.Frag) : Sp := fun vs H Q _ => ∃ (b p : Addr) (xs : List V), vs = [.ref b, .ref p] ∧ B2 H b ∧ SqL K H p xs ∧ p ≠ b ∧ 0 < xs.length ∧ xs.length < 1000 ∧
  ∀ (v : V) (H' : Hp), Dr b H H' → v ∈ xs → Q v H'
def spTold : Sp := fun vs H Q _ => ∃ (b : Addr) (z : Str) (m : Int), vs = [.ref b, .str z, .int m] ∧ B2 H b ∧ 0 < z.length ∧ z.length < 1000 ∧ 0 ≤ m ∧ m < 1000 ∧
  ∀ (y : Str) (H' : Hp), Dr b H H' → (y.length : Int) ≤ m → (∀ c ∈ y.cps.toList, c ∈ z.cps.toList) → Q (.str y) H'

def spLaw (K : PySem.W.Frag) : Sp := fun vs H Q _ => ∃ (a : Addr) (ns : List Int), vs = [.ref a] ∧ SqL K H a (ns.map V.int) ∧ ns.length ≤ 63 ∧ ∀ H', Q (.bl true) H'
end My

namespace My
open PySem PySem.Spec PyProof.Rows L2

local macro_rules | `(tactic| walk_at "rd") => `(tactic| (repeat (first
  | (refine ⟨_, rfl, ?_⟩) | (refine ⟨_, _, rfl, rfl, ?_⟩) | (refine ⟨_, _, rfl, ?_⟩) | (refine ⟨rfl, ?_⟩) | (refine ⟨⟨_, rfl⟩, ?_⟩)
  | (refine ⟨.inl (by decide), ?_⟩) | (refine ⟨.inr (by decide), ?_⟩) | (refine ⟨⟨by decide, by decide⟩, ?_⟩) | (refine ⟨⟨by decide, by decide, by decide⟩, ?_⟩) | (refine ⟨by decide, ?_⟩)
  | (refine ⟨(by show (0 : Int) < _; decide), ?_⟩)
  | (refine ⟨le_line rfl, ?_⟩) | (refine .inl ⟨_, rfl, ?_⟩) | (refine ⟨_, _, _, _, rfl, rfl, SqL.of (by assumption), rfl, ?_⟩))))


def spNum : Sp := fun vs H Q _ => ∃ (x : V) (t : Tg), vs = [x] ∧ Av H x t ∧ Q (.bl (isNum x)) H
def spWord : Sp := fun vs H Q _ => ∃ (x : V) (t : Tg), vs = [x] ∧ Av H x t ∧ ∀ H', Same H H' → Q (.bl (isWord x)) H'
/-- the name of the first argument of a setting that is wrong -/
def fw (s h t u : V) : Option Str :=
  if s ≠ .non ∧ isNum s = false then some (PySem.Str.ofString "source")
  else if isWord h = false then some (PySem.Str.ofString "head")
  else if isWord t = false ∨ (t ≠ .str Str.empty ∧ s = .non) then some (PySem.Str.ofString "tail")
  else if (¬ ∃ b, u = .bl b) ∨ (u = .bl true ∧ s = .non) then some (PySem.Str.ofString "is_turned")
  else none
def isInt (x : V) : Bool := match x with | .int _ => true | _ => false
def spInt : Sp := fun vs H Q _ => ∃ (x : V) (t : Tg), vs = [x] ∧ Av H x t ∧ Q (.bl (isInt x)) H

section
theorem ok_is_integer {K : PySem.W.Frag} {mg : Str → Option Value} {A0 : Ad} {P : Program} {w : World} {base : Heap} (T : Txt K mg A0) : FnOk P w K mg base CX0 1 A0.f_is_integer A0.d_is_integer ["value"] (spInt) := by
  refine T.F_is_integer.ok sc_is_integer (fun vs H Q E h => ?_) (fun cdv A outer s H vs Q E hr h => ?_)
  · obtain ⟨x, t, rfl, av, kk⟩ := h
    rfl
  · obtain ⟨x, t, rfl, av, kk⟩ := h
    refine ⟨_, (pss_one (ps_ret (pe_and (pe_callB cr_isA (by rfl) T.z_isinstance (by decide +kernel) (pa_cons (pv 0) (pa_cons (pe_bltn (v := .ty "int") (by rfl) T.z_int (by decide +kernel) rfl) pa_nil))) (pe_one (pe_not (pe_callB cr_isA (by rfl) T.z_isinstance (by decide +kernel) (pa_cons (pv 0) (pa_cons (pe_bltn (v := .ty "bool") (by rfl) T.z_bool (by decide +kernel) rfl) pa_nil)))))))), ?_⟩
    cases av with
    | non => walk_at "rd"; exact ⟨_, _, _, rfl, .inl rfl, .non, _, rfl, kk⟩
    | bl b => 
      walk_at "rd"
      refine ⟨_, _, _, rfl, .inl rfl, .bl b, _, rfl, ?_⟩
      exact ⟨_, rfl, _, _, _, rfl, .inr (.inl rfl), .bl b, _, rfl, kk⟩
    | int i =>
      walk_at "rd"
      refine ⟨_, _, _, rfl, .inl rfl, .int i, _, rfl, ?_⟩
      exact ⟨_, rfl, _, _, _, rfl, .inr (.inl rfl), .int i, _, rfl, kk⟩
    | str z h => walk_at "rd"; exact ⟨_, _, _, rfl, .inl rfl, .str z h, _, rfl, kk⟩
    | lst e => walk_at "rd"; exact ⟨_, _, _, rfl, .inl rfl, .lst e, _, rfl, kk⟩
    | tup e => walk_at "rd"; exact ⟨_, _, _, rfl, .inl rfl, .tup e, _, rfl, kk⟩

theorem ok_is_number {K : PySem.W.Frag} {mg : Str → Option Value} {A0 : Ad} {P : Program} {w : World} {base : Heap} (T : Txt K mg A0) : FnOk P w K mg base CX0 2 A0.f_is_number A0.d_is_number ["value"] (spNum) := by
  have Gis_integer := ok_is_integer (P := P) (w := w) (base := base) T
  refine T.F_is_number.ok sc_is_number (fun vs H Q E h => ?_) (fun cdv A outer s H vs Q E hr h => ?_)
  · obtain ⟨x, t, rfl, av, kk⟩ := h
    rfl
  · obtain ⟨x, t, rfl, av, kk⟩ := h
    have hr_is_integer : Room 1 _ := hr.mono (by decide)
    refine ⟨_, (pss_one (ps_ret (pe_and (pe_call Gis_integer hr_is_integer rfl T.g_is_integer T.k_is_integer T.b_is_integer .nil pass0 (pa_cons (pv 0) pa_nil)) (pe_one (pe_cmpR op_ge (pv 0) pe_int (nomark _)))))), ?_⟩
    walk_at "rd"
    refine ⟨x, t, rfl, av, isInt x, rfl, ?_⟩
    cases av with
    | int i => exact ⟨_, rfl, _, _, rfl, rfl, kk⟩
    | non => exact kk
    | bl b => exact kk
    | str z h => exact kk
    | lst e => exact kk
    | tup e => exact kk

theorem ok_is_word {K : PySem.W.Frag} {mg : Str → Option Value} {A0 : Ad} {P : Program} {w : World} {base : Heap} (T : Txt K mg A0) : FnOk P w K mg base CX0 1 A0.f_is_word A0.d_is_word ["value"] (spWord) := by
  refine T.F_is_word.ok sc_is_word (fun vs H Q E h => ?_) (fun cdv A outer s H vs Q E hr h => ?_)
  · obtain ⟨x, t, rfl, av, kk⟩ := h
    rfl
  · obtain ⟨x, t, rfl, av, kk⟩ := h
    refine ⟨_, (pss_one (ps_ret (pe_and (pe_callB cr_isA (by rfl) T.z_isinstance (by decide +kernel) (pa_cons (pv 0) (pa_cons (pe_bltn (v := .ty "str") (by rfl) T.z_str (by decide +kernel) rfl) pa_nil))) (pe_one (pe_callB (cr_all rfl) (by rfl) T.z_all (by decide +kernel) (pa_cons (pe_lc (own := [("sign", 1)]) (g := gName 1) (tt := tYes) rfl sc_is_word.nd (pi_str (pv 0)) (blkOk_by (own := [("sign", 1)]) (N := N_is_word) (sc := defScope s_is_word) (by decide +kernel)) (fun _ _ _ _ _ => (pg_name (i := 1) sc_is_word.nd rfl (Or.inl rfl))) (fun _ _ _ _ _ => pts_nil) (fun _ _ _ _ _ => by exact (pe_chain op_le_str op_le_str pe_str (pv 1) pe_str))) pa_nil)))))), ?_⟩
    cases av with
    | non => walk_at "rd"; exact ⟨_, _, _, rfl, .inr (.inr (.inl rfl)), .non, _, rfl, kk _ (Same.refl _)⟩
    | bl b => walk_at "rd"; exact ⟨_, _, _, rfl, .inr (.inr (.inl rfl)), .bl b, _, rfl, kk _ (Same.refl _)⟩
    | int i => walk_at "rd"; exact ⟨_, _, _, rfl, .inr (.inr (.inl rfl)), .int i, _, rfl, kk _ (Same.refl _)⟩
    | lst e => walk_at "rd"; exact ⟨_, _, _, rfl, .inr (.inr (.inl rfl)), .lst e, _, rfl, kk _ (Same.refl _)⟩
    | tup e => walk_at "rd"; exact ⟨_, _, _, rfl, .inr (.inr (.inl rfl)), .tup e, _, rfl, kk _ (Same.refl _)⟩
    | str z hz =>
      walk_at "rd"
      refine ⟨_, _, _, rfl, .inr (.inr (.inl rfl)), .str z hz, _, rfl, ?_⟩
      refine ⟨_, rfl, z, rfl, fun D nD => ?_⟩
      have hzl : z.cps.toList.length = z.length := len_cps z
      refine lc_it walk_str (fun i H' => Same H H' ∧ H' D = some (.lst (((z.cps.toList.take i).map fun c => decide (97 ≤ c ∧ c ≤ 122)).map V.bl)))
        ⟨same_upd nD, upd_same⟩ (fun _ _ _ _ => trivial) (fun i x H1 H2 hi P1 Y1 => ?_) (fun H1 P1 => ?_)
      · obtain ⟨s1, eD⟩ := P1
        obtain ⟨rfl, c, ec, rfl⟩ := Y1
        have ec' : z.cps.toList[i]? = some c := by simpa using ec
        have fin : ∀ k : Bool, k = decide (97 ≤ c ∧ c ≤ 122) → ∃ acc, H2 D = some (.lst acc) ∧ acc.length < sizeLine ∧ (Same H (upd H2 D (.lst (acc ++ [.bl k]))) ∧
            (upd H2 D (.lst (acc ++ [.bl k]))) D = some (.lst (((z.cps.toList.take (i + 1)).map fun c => decide (97 ≤ c ∧ c ≤ 122)).map V.bl))) := by
          intro k ek
          refine ⟨_, eD, ?_, fun b o e => by rw [upd_ne (ne_of_none e nD)]; exact s1 _ _ e, ?_⟩
          · rw [List.length_map, List.length_map, List.length_take]
            exact Nat.lt_of_lt_of_le (show min i z.cps.toList.length < 1001 by omega) (le_lineN (by omega))
          · rw [upd_same, List.take_add_one, ec', List.map_append, List.map_append, ek]
            rfl
        refine ⟨rfl, ?_⟩
        refine ⟨_, rfl, _, _, rfl, rfl, _, rfl, ?_⟩
        rw [show (PySem.Str.ofString "a").cps.toList = [97] by decide +kernel, sign_le]
        refine ite2 (fun h1 => ?_) (fun h1 => ?_)
        · refine ⟨_, _, rfl, rfl, ?_⟩
          rw [show (PySem.Str.ofString "z").cps.toList = [122] by decide +kernel, sign_ge]
          have h1' : 97 ≤ c := of_decide_eq_true h1
          exact fin _ (by
            by_cases h2 : c ≤ 122
            · rw [decide_eq_true h2, decide_eq_true ⟨h1', h2⟩]
            · rw [decide_eq_false h2, decide_eq_false (fun z => h2 z.2)])
        · have h1' : ¬ 97 ≤ c := fun q => h1 (decide_eq_true q)
          exact fin _ (decide_eq_false (fun q => h1' q.1)).symm
      · obtain ⟨s1, eD⟩ := P1
        rw [List.take_of_length_le (by rw [Array.length_toList]; exact Nat.le_refl _)] at eD
        refine ⟨D, _, rfl, SqL.of eD, ?_⟩
        rw [List.all_map]
        exact kk H1 s1

end
end My

namespace My
open PySem PySem.Spec PyProof.Rows L2

local macro_rules | `(tactic| walk_at "rd") => `(tactic| (repeat (first
  | (refine ⟨_, rfl, ?_⟩) | (refine ⟨_, _, rfl, rfl, ?_⟩) | (refine ⟨_, _, rfl, ?_⟩) | (refine ⟨rfl, ?_⟩) | (refine ⟨⟨_, rfl⟩, ?_⟩)
  | (refine ⟨.inl (by decide), ?_⟩) | (refine ⟨.inr (by decide), ?_⟩) | (refine ⟨⟨by decide, by decide⟩, ?_⟩) | (refine ⟨⟨by decide, by decide, by decide⟩, ?_⟩) | (refine ⟨by decide, ?_⟩)
  | (refine ⟨(by show (0 : Int) < _; decide), ?_⟩)
  | (refine ⟨le_line rfl, ?_⟩) | (refine .inl ⟨_, rfl, ?_⟩) | (refine ⟨_, _, _, _, rfl, rfl, SqL.of (by assumption), rfl, ?_⟩))))


theorem iteN {c A B : Prop} [Decidable c] (hc : ¬ c) (h : A) : if (!decide c) = true then A else B := by
  rw [decide_eq_false hc]
  exact iteT h
theorem fw_src {s h t u : V} (c0 : s ≠ .non) (c1 : isNum s = false) : fw s h t u = some (PySem.Str.ofString "source") := by unfold fw; rw [if_pos ⟨c0, c1⟩]
theorem fw_head {s h t u : V} (c0 : ¬ (s ≠ .non ∧ isNum s = false)) (c1 : isWord h = false) : fw s h t u = some (PySem.Str.ofString "head") := by unfold fw; rw [if_neg c0, if_pos c1]
theorem fw_tail {s h t u : V} (c0 : ¬ (s ≠ .non ∧ isNum s = false)) (c1 : isWord h = true) (c2 : isWord t = false ∨ (t ≠ .str Str.empty ∧ s = .non)) : fw s h t u = some (PySem.Str.ofString "tail") := by
  unfold fw; rw [if_neg c0, if_neg (by rw [c1]; decide), if_pos c2]
theorem fw_turn {s h t u : V} (c0 : ¬ (s ≠ .non ∧ isNum s = false)) (c1 : isWord h = true) (c2 : ¬ (isWord t = false ∨ (t ≠ .str Str.empty ∧ s = .non))) (c3 : (¬ ∃ b, u = .bl b) ∨ (u = .bl true ∧ s = .non)) : fw s h t u = some (PySem.Str.ofString "is_turned") := by
  unfold fw; rw [if_neg c0, if_neg (by rw [c1]; decide), if_neg c2, if_pos c3]
theorem fw_none {s h t u : V} (c0 : ¬ (s ≠ .non ∧ isNum s = false)) (c1 : isWord h = true) (c2 : ¬ (isWord t = false ∨ (t ≠ .str Str.empty ∧ s = .non))) (c3 : ¬ ((¬ ∃ b, u = .bl b) ∨ (u = .bl true ∧ s = .non))) : fw s h t u = none := by
  unfold fw; rw [if_neg c0, if_neg (by rw [c1]; decide), if_neg c2, if_neg c3]
def oV : Option Str → V
  | none => .non
  | some x => .str x
def spFW : Sp := fun vs H Q _ => ∃ (s h t u : V) (a b c e : Tg), vs = [s, h, t, u] ∧ Av H s a ∧ Av H h b ∧ Av H t c ∧ Av H u e ∧ ∀ H', Same H H' → Q (oV (fw s h t u)) H'

section
theorem ok_first_wrong {K : PySem.W.Frag} {mg : Str → Option Value} {A0 : Ad} {P : Program} {w : World} {base : Heap} (T : Txt K mg A0) : FnOk P w K mg base CX0 3 A0.f_first_wrong A0.d_first_wrong ["source", "head", "tail", "is_turned"] (spFW) := by
  have Gis_word := ok_is_word (P := P) (w := w) (base := base) T
  have Gis_number := ok_is_number (P := P) (w := w) (base := base) T
  refine T.F_first_wrong.ok sc_first_wrong (fun vs H Q E h => ?_) (fun cdv A outer s H vs Q E hr h => ?_)
  · obtain ⟨s, h, t, u, a, b, c, e, rfl, as, ah, at_, au, kk⟩ := h
    rfl
  · obtain ⟨s, h, t, u, a, b, c, e, rfl, as, ah, at_, au, kk⟩ := h
    have hr_is_word : Room 1 _ := hr.mono (by decide)
    have hr_is_number : Room 2 _ := hr.mono (by decide)
    refine ⟨_, (pss_cons (ps_set (i := 4) sc_first_wrong.nd rfl (Or.inl rfl) (pe_cmpR op_notN (pv 0) pe_non (nomark _)))
      (pss_cons (ps_if (PW.pt (pw_and (pt_val (pv 4)) (pw_and1 (pt_not (pt_val (pe_call Gis_number hr_is_number rfl T.g_is_number T.k_is_number T.b_is_number .nil pass0 (pa_cons (pv 0) pa_nil))))))) (pss_one (ps_ret pe_str)) pss_nil)
      (pss_cons (ps_if (pt_not (pt_val (pe_call Gis_word hr_is_word rfl T.g_is_word T.k_is_word T.b_is_word .nil pass0 (pa_cons (pv 1) pa_nil)))) (pss_one (ps_ret pe_str)) pss_nil)
      (pss_cons (ps_if (PW.pt (pw_or (pt_not (pt_val (pe_call Gis_word hr_is_word rfl T.g_is_word T.k_is_word T.b_is_word .nil pass0 (pa_cons (pv 2) pa_nil)))) (pw_or1 (PW.pt (pw_and (pt_cmpR op_ne (pv 2) pe_str (nomark _)) (pw_and1 (pt_not (pt_val (pv 4))))))))) (pss_one (ps_ret pe_str)) pss_nil)
      (pss_cons (ps_if (PW.pt (pw_or (pt_not (pt_val (pe_callB cr_isA (by rfl) T.z_isinstance (by decide +kernel) (pa_cons (pv 3) (pa_cons (pe_bltn (v := .ty "bool") (by rfl) T.z_bool (by decide +kernel) rfl) pa_nil))))) (pw_or1 (PW.pt (pw_and (pt_val (pv 3)) (pw_and1 (pt_not (pt_val (pv 4))))))))) (pss_one (ps_ret pe_str)) pss_nil)
      (pss_one (ps_ret pe_non))))))), ?_⟩
    have ret : ∀ (r : Option Str) (H' : Hp), fw s h t u = r → Same H H' → Q (oV r) H' := fun r H' e s1 => e ▸ kk H' s1
    refine ⟨_, rfl, rfl, ?_⟩
    by_cases c0 : s = .non
    · subst c0
      have c01 : ¬ (V.non ≠ .non ∧ isNum .non = false) := fun q => q.1 rfl
      refine ⟨_, rfl, _, rfl, ?_⟩
      refine ⟨_, rfl, h, b, rfl, ah, fun H1 s1 => ?_⟩
      refine ⟨_, rfl, ?_⟩
      cases e1 : isWord h with
      | false => exact ret _ _ (fw_head c01 e1) s1
      | true =>
        refine ⟨_, rfl, t, c, rfl, at_.same s1, fun H2 s2 => ?_⟩
        have s12 := s1.trans s2
        refine ⟨_, rfl, ?_⟩
        cases e2 : isWord t with
        | false => exact ret _ _ (fw_tail c01 e1 (.inl e2)) s12
        | true =>
          cases at_ with
          | str z hz =>
            refine ⟨_, rfl, rfl, _, rfl, ?_⟩
            by_cases ez : V.str z = V.str Str.empty
            · refine iteNS ez ?_
              have c2 : ¬ (isWord (V.str z) = false ∨ (V.str z ≠ .str Str.empty ∧ V.non = .non)) := fun q => q.elim (fun q => by rw [e2] at q; cases q) fun q => q.1 ez
              have au2 := au.same s12
              refine ⟨_, rfl, u, _, e, rfl, .inr (.inl rfl), au2, _, rfl, ?_⟩
              cases au with
              | bl y =>
                refine ⟨_, rfl, _, rfl, ?_⟩
                cases y with
                | false => exact ret _ _ (fw_none c01 e1 c2 (fun q => q.elim (fun q => q ⟨_, rfl⟩) fun q => by cases q.1)) s12
                | true =>
                  refine ⟨_, rfl, _, rfl, ?_⟩
                  exact ret _ _ (fw_turn c01 e1 c2 (.inr ⟨rfl, rfl⟩)) s12
              | non => exact ret _ _ (fw_turn c01 e1 c2 (.inl fun q => by obtain ⟨_, q⟩ := q; cases q)) s12
              | int i => exact ret _ _ (fw_turn c01 e1 c2 (.inl fun q => by obtain ⟨_, q⟩ := q; cases q)) s12
              | str z hz => exact ret _ _ (fw_turn c01 e1 c2 (.inl fun q => by obtain ⟨_, q⟩ := q; cases q)) s12
              | lst q => exact ret _ _ (fw_turn c01 e1 c2 (.inl fun q => by obtain ⟨_, q⟩ := q; cases q)) s12
              | tup q => exact ret _ _ (fw_turn c01 e1 c2 (.inl fun q => by obtain ⟨_, q⟩ := q; cases q)) s12
            · refine iteN ez ?_
              refine ⟨_, rfl, _, rfl, ?_⟩
              exact ret _ _ (fw_tail c01 e1 (.inr ⟨ez, rfl⟩)) s12
          | non => cases e2
          | bl y => cases e2
          | int y => cases e2
          | lst q => cases e2
          | tup q => cases e2
    · rw [decide_eq_false c0]
      refine ⟨_, rfl, _, rfl, ?_⟩
      refine ⟨_, rfl, s, a, rfl, as, ?_⟩
      refine ⟨_, rfl, ?_⟩
      cases e0 : isNum s with
      | false => exact ret _ _ (fw_src c0 e0) (Same.refl _)
      | true =>
        have c01 : ¬ (s ≠ .non ∧ isNum s = false) := fun q => by rw [e0] at q; cases q.2
        refine ⟨_, rfl, h, b, rfl, ah, fun H1 s1 => ?_⟩
        refine ⟨_, rfl, ?_⟩
        cases e1 : isWord h with
        | false => exact ret _ _ (fw_head c01 e1) s1
        | true =>
          refine ⟨_, rfl, t, c, rfl, at_.same s1, fun H2 s2 => ?_⟩
          have s12 := s1.trans s2
          refine ⟨_, rfl, ?_⟩
          cases e2 : isWord t with
          | false => exact ret _ _ (fw_tail c01 e1 (.inl e2)) s12
          | true =>
            cases at_ with
            | str z hz =>
              refine ⟨_, rfl, rfl, _, rfl, ?_⟩
              have c2 : ¬ (isWord (V.str z) = false ∨ (V.str z ≠ .str Str.empty ∧ s = .non)) := fun q => q.elim (fun q => by rw [e2] at q; cases q) fun q => c0 q.2
              by_cases ez : V.str z = V.str Str.empty
              · refine iteNS ez ?_
                have au2 := au.same s12
                refine ⟨_, rfl, u, _, e, rfl, .inr (.inl rfl), au2, _, rfl, ?_⟩
                cases au with
                | bl y =>
                  refine ⟨_, rfl, _, rfl, ?_⟩
                  cases y with
                  | false => exact ret _ _ (fw_none c01 e1 c2 (fun q => q.elim (fun q => q ⟨_, rfl⟩) fun q => by cases q.1)) s12
                  | true =>
                    refine ⟨_, rfl, _, rfl, ?_⟩
                    exact ret _ _ (fw_none c01 e1 c2 (fun q => q.elim (fun q => q ⟨_, rfl⟩) fun q => c0 q.2)) s12
                | non => exact ret _ _ (fw_turn c01 e1 c2 (.inl fun q => by obtain ⟨_, q⟩ := q; cases q)) s12
                | int i => exact ret _ _ (fw_turn c01 e1 c2 (.inl fun q => by obtain ⟨_, q⟩ := q; cases q)) s12
                | str z hz => exact ret _ _ (fw_turn c01 e1 c2 (.inl fun q => by obtain ⟨_, q⟩ := q; cases q)) s12
                | lst q => exact ret _ _ (fw_turn c01 e1 c2 (.inl fun q => by obtain ⟨_, q⟩ := q; cases q)) s12
                | tup q => exact ret _ _ (fw_turn c01 e1 c2 (.inl fun q => by obtain ⟨_, q⟩ := q; cases q)) s12
              · refine iteN ez ?_
                refine ⟨_, rfl, _, rfl, ?_⟩
                have au2 := au.same s12
                refine ⟨_, rfl, u, _, e, rfl, .inr (.inl rfl), au2, _, rfl, ?_⟩
                cases au with
                | bl y =>
                  refine ⟨_, rfl, _, rfl, ?_⟩
                  cases y with
                  | false => exact ret _ _ (fw_none c01 e1 c2 (fun q => q.elim (fun q => q ⟨_, rfl⟩) fun q => by cases q.1)) s12
                  | true =>
                    refine ⟨_, rfl, _, rfl, ?_⟩
                    exact ret _ _ (fw_none c01 e1 c2 (fun q => q.elim (fun q => q ⟨_, rfl⟩) fun q => c0 q.2)) s12
                | non => exact ret _ _ (fw_turn c01 e1 c2 (.inl fun q => by obtain ⟨_, q⟩ := q; cases q)) s12
                | int i => exact ret _ _ (fw_turn c01 e1 c2 (.inl fun q => by obtain ⟨_, q⟩ := q; cases q)) s12
                | str z hz => exact ret _ _ (fw_turn c01 e1 c2 (.inl fun q => by obtain ⟨_, q⟩ := q; cases q)) s12
                | lst q => exact ret _ _ (fw_turn c01 e1 c2 (.inl fun q => by obtain ⟨_, q⟩ := q; cases q)) s12
                | tup q => exact ret _ _ (fw_turn c01 e1 c2 (.inl fun q => by obtain ⟨_, q⟩ := q; cases q)) s12
            | non => cases e2
            | bl y => cases e2
            | int y => cases e2
            | lst q => cases e2
            | tup q => cases e2

end
end My

namespace My
open PySem PySem.Spec PyProof.Rows L2

local macro_rules | `(tactic| walk_at "rd") => `(tactic| (repeat (first
  | (refine ⟨_, rfl, ?_⟩) | (refine ⟨_, _, rfl, rfl, ?_⟩) | (refine ⟨_, _, rfl, ?_⟩) | (refine ⟨rfl, ?_⟩) | (refine ⟨⟨_, rfl⟩, ?_⟩)
  | (refine ⟨.inl (by decide), ?_⟩) | (refine ⟨.inr (by decide), ?_⟩) | (refine ⟨⟨by decide, by decide⟩, ?_⟩) | (refine ⟨⟨by decide, by decide, by decide⟩, ?_⟩) | (refine ⟨by decide, ?_⟩)
  | (refine ⟨(by show (0 : Int) < _; decide), ?_⟩)
  | (refine ⟨le_line rfl, ?_⟩) | (refine .inl ⟨_, rfl, ?_⟩) | (refine ⟨_, _, _, _, rfl, rfl, SqL.of (by assumption), rfl, ?_⟩))))


theorem len_putF (f : Str) (v : V) : ∀ l : List (Str × V), (putF f v l).length ≤ l.length + 1
  | [] => Nat.le_refl _
  | (g, u) :: r => by
    unfold putF
    split
    · exact Nat.le_succ _
    · exact Nat.succ_le_succ (len_putF f v r)
theorem few0 {f : Str} {v : V} {l : List (Str × V)} {n : Nat} (h : l.length ≤ n) : (putF f v l).length ≤ n + 1 := Nat.le_trans (len_putF f v l) (Nat.succ_le_succ h)
theorem few {l : List (Str × V)} {n : Nat} (h : l.length ≤ n) (k : n < 1000) : l.length < 1000 := Nat.lt_of_le_of_lt h k
def spWI (K : PySem.W.Frag) (C : Addr) : Sp := fun vs H Q _ => ∃ (a : Addr) (v : V), vs = [.ref a, v] ∧ H a = some (exo a C none) ∧ OexC K C ∧ PySem.W.findIn K (.ref C) "word" = some none ∧
  ∀ dx, H dx = none → dx ≠ a → Q .non (upd (upd H dx (exd dx [("word", v)])) a (exo a C (some dx)))
def setF (s h t u : V) : List (Str × V) := putF "is_turned" u (putF "tail" t (putF "head" h (putF "source" s [])))
def spInit (C CI : Addr) : Sp := fun vs H Q E => ∃ (p dx : Addr) (s h t u : V) (a b c e : Tg), vs = [.ref p, s, h, t, u] ∧ H p = some (.ins C dx []) ∧ Av H s a ∧ Av H h b ∧ Av H t c ∧ Av H u e ∧
  (fw s h t u = none → ∀ H' : Hp, (∀ b o, b ≠ p → H b = some o → H' b = some o) → H' p = some (.ins C dx (setF s h t u)) → Q .non H') ∧
  ∀ w : Str, fw s h t u = some w → ∀ (d : Addr) (H' : Hp), Same H H' → H d = none → H' d = some (.xd [("word", .str w)]) → E (.ref CI) (some d) H'

section
theorem ok_InvalidSetting_init {K : PySem.W.Frag} {mg : Str → Option Value} {A0 : Ad} {P : Program} {w : World} {base : Heap} (T : Txt K mg A0) : FnOk P w K mg base CX0 1 A0.f_InvalidSetting_init A0.d_InvalidSetting_init ["self", "word"] (spWI K A0.c_InvalidSetting) := by
  refine T.F_InvalidSetting_init.ok sc_InvalidSetting_init (fun vs H Q E h => ?_) (fun cdv A outer s H vs Q E hr h => ?_)
  · obtain ⟨a, v, rfl, ha, hO, hn, kk⟩ := h
    rfl
  · obtain ⟨a, v, rfl, ha, hO, hn, kk⟩ := h
    refine ⟨_, (pss_one (ps_ost (pv 0) (pv 1))), ?_⟩
    refine ⟨_, rfl, _, rfl, a, _, rfl, hO, hn, .inl ⟨ha, fun dx n ne => ?_⟩⟩
    exact kk dx n ne

theorem ok_Setting_init {K : PySem.W.Frag} {mg : Str → Option Value} {A0 : Ad} {P : Program} {w : World} {base : Heap} (T : Txt K mg A0) : FnOk P w K mg base (L2.CX P w) 5 A0.f_Setting_init A0.d_Setting_init ["self", "source", "head", "tail", "is_turned"] (spInit A0.c_Setting A0.c_InvalidSetting) := by
  have Gfirst_wrong := ok_first_wrong (P := P) (w := w) (base := base) T
  have GInvalidSetting_init := ok_InvalidSetting_init (P := P) (w := w) (base := base) T
  refine T.F_Setting_init.ok sc_Setting_init (fun vs H Q E h => ?_) (fun cdv A outer s H vs Q E hr h => ?_)
  · obtain ⟨p, dx, s, h, t, u, a, b, c, e, rfl, hp, as, ah, at_, au, kk, ke⟩ := h
    rfl
  · obtain ⟨p, dx, s, h, t, u, a, b, c, e, rfl, hp, as, ah, at_, au, kk, ke⟩ := h
    have hr_first_wrong : Room 3 _ := hr.mono (by decide)
    have hr_InvalidSetting_init : Room 1 _ := hr.mono (by decide)
    have hr_InvalidSetting_init : Room 2 _ := hr.mono (by decide)
    refine ⟨_, (pss_cons (ps_set (i := 5) sc_Setting_init.nd rfl (Or.inl rfl) (pe_call Gfirst_wrong hr_first_wrong rfl T.g_first_wrong T.k_first_wrong T.b_first_wrong .nil pass0 (pa_cons (pv 1) (pa_cons (pv 2) (pa_cons (pv 3) (pa_cons (pv 4) pa_nil))))))
      (pss_cons (ps_if (pt_cmpR op_notN (pv 5) pe_non (nomark _)) (pss_one (ps_raise rfl (takes_of rfl rfl rfl rfl) (pmk_oex T.o_InvalidSetting T.i_InvalidSetting T.t_InvalidSetting GInvalidSetting_init hr_InvalidSetting_init T.b_InvalidSetting_init .nil pass0 rfl T.g_InvalidSetting (pa_cons (pv 5) pa_nil)))) pss_nil)
      (pss_cons (ps_fld (pv 0) (pv 1) rfl)
      (pss_cons (ps_fld (pv 0) (pv 2) rfl)
      (pss_cons (ps_fld (pv 0) (pv 3) rfl)
      (pss_one (ps_fld (pv 0) (pv 4) rfl))))))), ?_⟩
    have av : ∀ {x : V} {tg : Tg}, Av H x tg → Av H x tg := fun q => q
    refine ⟨_, rfl, _, rfl, _, rfl, _, rfl, s, h, t, u, a, b, c, e, rfl, as, ah, at_, au, fun H1 s1 => ?_⟩
    cases ef : fw s h t u with
    | some w1 =>
      refine ⟨_, rfl, rfl, _, rfl, iteN (fun z => nomatch z) ?_⟩
      refine ⟨_, rfl, by show 1 ≤ 1000; decide, fun ea na => ⟨ea, _, rfl, upd_same, T.o_InvalidSetting, T.n_InvalidSetting, fun d2 n2 ne2 => ?_⟩⟩
      have n1 : H1 d2 = none := by rw [upd_ne ne2] at n2; exact n2
      refine ⟨rfl, d2, _, upd_same, (upd_ne ne2).trans upd_same, n1, ?_⟩
      refine ke w1 ef d2 _ (fun b o q => ?_) (s1.free n1) upd_same
      have q1 := s1 _ _ q
      have nb1 : b ≠ ea := ne_of_none q1 na
      have nb2 : b ≠ d2 := ne_of_none q1 n1
      rw [upd_ne nb2, del_ne nb1, upd_ne nb1, upd_ne nb2, upd_ne nb1]
      exact q1
    | none =>
      have hp1 := s1 _ _ hp
      refine ⟨_, rfl, rfl, _, rfl, iteNS rfl ?_⟩
      refine ⟨_, rfl, _, rfl, p, _, dx, _, rfl, hp1, T.cl_Setting, T.n_Setting_source, (by show 0 < 1000; decide), ?_⟩
      refine ⟨_, rfl, _, rfl, p, _, dx, _, rfl, upd_same, T.cl_Setting, T.n_Setting_head, few (few0 (Nat.zero_le 4)) (by decide), ?_⟩
      refine ⟨_, rfl, _, rfl, p, _, dx, _, rfl, upd_same, T.cl_Setting, T.n_Setting_tail, few (few0 (few0 (Nat.zero_le 4))) (by decide), ?_⟩
      refine ⟨_, rfl, _, rfl, p, _, dx, _, rfl, upd_same, T.cl_Setting, T.n_Setting_is_turned, few (few0 (few0 (few0 (Nat.zero_le 4)))) (by decide), ?_⟩
      refine kk ef _ (fun b o nb q => ?_) upd_same
      rw [upd_ne nb, upd_ne nb, upd_ne nb, upd_ne nb]
      exact s1 _ _ q

end
end My

namespace My
open PySem PySem.Spec PyProof.Rows L2

local macro_rules | `(tactic| walk_at "rd") => `(tactic| (repeat (first
  | (refine ⟨_, rfl, ?_⟩) | (refine ⟨_, _, rfl, rfl, ?_⟩) | (refine ⟨_, _, rfl, ?_⟩) | (refine ⟨rfl, ?_⟩) | (refine ⟨⟨_, rfl⟩, ?_⟩)
  | (refine ⟨.inl (by decide), ?_⟩) | (refine ⟨.inr (by decide), ?_⟩) | (refine ⟨⟨by decide, by decide⟩, ?_⟩) | (refine ⟨⟨by decide, by decide, by decide⟩, ?_⟩) | (refine ⟨by decide, ?_⟩)
  | (refine ⟨(by show (0 : Int) < _; decide), ?_⟩)
  | (refine ⟨le_line rfl, ?_⟩) | (refine .inl ⟨_, rfl, ?_⟩) | (refine ⟨_, _, _, _, rfl, rfl, SqL.of (by assumption), rfl, ?_⟩))))

theorem Dr.tup {b : Addr} {H H' : Hp} (d : Dr b H H') (x : B2 H b) {p : Addr} {ys : List V} (e : H p = some (.tup ys)) : H' p = some (.tup ys) := by
  obtain ⟨g, r, q⟩ := x
  exact d.kp _ _ (ne_of e q (by intro z; cases z)) e

theorem Av.dr {b : Addr} {H H' : Hp} {x : V} {t : Tg} (h : Av H x t) (d : Dr b H H') (hb : B2 H b) : Av H' x t := by
  cases h with
  | non => exact .non
  | bl b => exact .bl b
  | int i => exact .int i
  | str z h => exact .str z h
  | lst e =>
    rename_i a xs
    by_cases n : a = b
    · obtain ⟨g, r, q⟩ := d.bx
      exact .lst (by rw [n]; exact q)
    · exact .lst (d.kp _ _ n e)
  | tup e => exact .tup (d.tup hb e)
def spTried (K : PySem.W.Frag) : Sp := fun vs H Q _ => ∃ (l : Addr) (s h t u : V) (a b c e : Tg), vs = [.ref l] ∧ H l = some (.lst [s, h, t, u]) ∧ Av H s a ∧ Av H h b ∧ Av H t c ∧ Av H u e ∧
  ∀ H', Same H H' → Q (oV (fw s h t u)) H'

section
theorem ok_seed {K : PySem.W.Frag} {mg : Str → Option Value} {A0 : Ad} {P : Program} {w : World} {base : Heap} (T : Txt K mg A0) : FnOk P w K mg base CX0 1 A0.f_seed A0.d_seed ["_law_script", "_law_k"] (spSeed K) := by
  refine T.F_seed.ok sc_seed (fun vs H Q E h => ?_) (fun cdv A outer s H vs Q E hr h => ?_)
  · obtain ⟨a, ns, k, rfl, hS, hlen, hk0, hk1, kk⟩ := h
    rfl
  · obtain ⟨a, ns, k, rfl, hS, hlen, hk0, hk1, kk⟩ := h
    refine ⟨_, (pss_cons (ps_set (i := 2) sc_seed.nd rfl (Or.inl rfl) (pe_op op_add (pe_op op_mul pe_int (pv 1)) pe_int))
      (pss_cons (ps_if (pt_cmpR op_lt (pv 1) (pe_callB call_len_seq (by rfl) T.z_len (by decide +kernel) (pa_cons (pv 0) pa_nil)) (nomark _)) (pss_one (ps_set (i := 2) sc_seed.nd rfl (Or.inl rfl) (pe_callB call_abs (by rfl) T.z_abs (by decide +kernel) (pa_cons (pe_ix ix_list (pv 0) (pv 1) (fun _ _ => rfl)) pa_nil)))) (pss_one (ps_if (pt_cmpR op_gt (pe_callB call_len_seq (by rfl) T.z_len (by decide +kernel) (pa_cons (pv 0) pa_nil)) pe_int (nomark _)) (pss_one (ps_set (i := 2) sc_seed.nd rfl (Or.inl rfl) (pe_op op_add (pv 2) (pe_op op_mul (pe_op op_mod (pe_callTy call_int1 (by rfl) T.z_int (by decide +kernel) (pa_cons (pe_callB call_abs (by rfl) T.z_abs (by decide +kernel) (pa_cons (pe_ix ix_list (pv 0) (pe_op op_mod (pe_callTy call_int1 (by rfl) T.z_int (by decide +kernel) (pa_cons (pv 1) pa_nil)) (pe_callB call_len_seq (by rfl) T.z_len (by decide +kernel) (pa_cons (pv 0) pa_nil))) (fun _ _ => rfl)) pa_nil)) pa_nil)) pe_int) pe_int)))) pss_nil)))
      (pss_cons (ps_set (i := 3) sc_seed.nd rfl (Or.inl rfl) (pe_ifExp (pt_cmpR op_ge (pv 2) (pe_op op_pow pe_int pe_int) (nomark _)) (pv 2) pe_int))
      (pss_one (ps_ret (pe_lst (pa_cons (pv 3) (pa_cons (pe_op op_add (pe_op op_mod (pe_callTy call_int1 (by rfl) T.z_int (by decide +kernel) (pa_cons (pe_op op_add (pe_op op_mul (pe_op op_mod (pe_callTy call_int1 (by rfl) T.z_int (by decide +kernel) (pa_cons (pv 2) pa_nil)) pe_int) pe_int) (pe_op op_mul pe_int (pv 1))) pa_nil)) pe_int) pe_int) pa_nil)))))))), ?_⟩
    have hl : ((ns.map V.int).length : Int) = ns.length := by rw [List.length_map]
    have fin : ∀ (p : Addr) (g r : Int), H p = none → Q (.ref p) (upd H p (.lst [.int g, .int r])) := kk
    walk_at "rd"
    refine ⟨_, _, rfl, .inl hS, ?_⟩
    walk_at "rd"
    rw [hl]
    refine ite2 (fun h1 => ?_) (fun h1 => ?_)
    · obtain ⟨n, en⟩ := at_ints hk0 (of_decide_eq_true h1)
      refine ⟨_, rfl, _, rfl, _, _, k, .int n, rfl, rfl, hS, en, ?_⟩
      walk_at "rd"
      refine ite2 (fun h2 => ?_) (fun h2 => ?_) <;> (walk_at "rd"; exact fun p np => kk p _ _ np)
    · walk_at "rd"
      refine ⟨_, _, rfl, .inl hS, ?_⟩
      walk_at "rd"
      rw [hl]
      refine ite2 (fun h3 => ?_) (fun h3 => ?_)
      · have h3' : (0 : Int) < ns.length := of_decide_eq_true h3
        walk_at "rd"
        refine ⟨_, _, rfl, .inl hS, ?_⟩
        walk_at "rd"
        rw [hl]
        obtain ⟨n, en⟩ := at_ints (ns := ns) (k := k % (ns.length : Int)) (Int.emod_nonneg _ (by omega)) (Int.emod_lt_of_pos _ h3')
        refine ⟨h3', _, _, _, .int n, rfl, rfl, hS, en, ?_⟩
        walk_at "rd"
        refine ite2 (fun h2 => ?_) (fun h2 => ?_) <;> (walk_at "rd"; exact fun p np => kk p _ _ np)
      · walk_at "rd"
        refine ite2 (fun h2 => ?_) (fun h2 => ?_) <;> (walk_at "rd"; exact fun p np => kk p _ _ np)

theorem ok_choose {K : PySem.W.Frag} {mg : Str → Option Value} {A0 : Ad} {P : Program} {w : World} {base : Heap} (T : Txt K mg A0) : FnOk P w K mg base CX0 1 A0.f_choose A0.d_choose ["_law_box", "_law_many"] (spChoose) := by
  refine T.F_choose.ok sc_choose (fun vs H Q E h => ?_) (fun cdv A outer s H vs Q E hr h => ?_)
  · obtain ⟨b, m, rfl, hB, hm0, hm1, kk⟩ := h
    rfl
  · obtain ⟨b, m, rfl, hB, hm0, hm1, kk⟩ := h
    refine ⟨_, (pss_cons (ps_if (pt_cmpR op_gt (pe_ix ix_list (pv 0) pe_int (fun _ _ => rfl)) pe_int (nomark _)) (pss_cons (ps_set (i := 2) sc_choose.nd rfl (Or.inl rfl) (pe_op op_mod (pe_callTy call_int1 (by rfl) T.z_int (by decide +kernel) (pa_cons (pe_ix ix_list (pv 0) pe_int (fun _ _ => rfl)) pa_nil)) (pv 1)))
      (pss_cons (ps_asg (pe_op op_fdiv (pe_ix ix_list (pv 0) pe_int (fun _ _ => rfl)) (pv 1)) (pg_sub (pv 0) pe_int set_list))
      (pss_one (ps_ret (pv 2))))) pss_nil)
      (pss_cons (ps_set (i := 3) sc_choose.nd rfl (Or.inl rfl) (pe_op op_mod (pe_callTy call_int1 (by rfl) T.z_int (by decide +kernel) (pa_cons (pe_op op_add (pe_op op_mul (pe_ix ix_list (pv 0) pe_int (fun _ _ => rfl)) pe_int) pe_int) pa_nil)) pe_int))
      (pss_cons (ps_asg (pe_op op_add (pe_op op_mod (pe_callTy call_int1 (by rfl) T.z_int (by decide +kernel) (pa_cons (pe_op op_add (pe_op op_mul (pv 3) pe_int) pe_int) pa_nil)) pe_int) pe_int) (pg_sub (pv 0) pe_int set_list))
      (pss_one (ps_ret (pe_op op_mod (pe_callTy call_int1 (by rfl) T.z_int (by decide +kernel) (pa_cons (pe_op op_fdiv (pe_op op_add (pe_op op_mul (pv 3) pe_int) (pe_ix ix_list (pv 0) pe_int (fun _ _ => rfl))) pe_int) pa_nil)) (pv 1))))))), ?_⟩
    obtain ⟨g, r, hb⟩ := hB
    have fr : ∀ (H' : Hp), (∀ a o, H a = some o → a ≠ b → H' a = some o) → H' b ≠ none → ∀ p, H' p = none → H p = none := fun H' k1 k2 p np => by
      cases q : H p with
      | none => rfl
      | some o =>
        by_cases e : p = b
        · exact absurd (e ▸ np) k2
        · rw [k1 p o q e] at np
          cases np
    have two : ∀ (x y : Int) (xs : List V), xs = [.int x, .int y] → ∃ g' r' : Int, xs = [.int g', .int r'] := fun x y xs e => ⟨x, y, e⟩
    walk_at "rd"
    refine ite2 (fun hg => ?_) (fun hg => ?_)
    · walk_at "rd"
      refine ⟨hm0, ?_⟩
      walk_at "rd"
      refine ⟨⟨hm0, by show m < 1073741824; omega⟩, ?_⟩
      walk_at "rd"
      refine ⟨b, _, 0, 0, rfl, rfl, hb, rfl, ?_⟩
      walk_at "rd"
      exact kk _ _ (Dr.put (g / m) r) (Int.emod_nonneg _ (by omega)) (Int.emod_lt_of_pos _ hm0) (fr _ (fun a o e n => by rw [upd_ne n]; exact e) (by rw [upd_same]; exact fun z => nomatch z))
    · walk_at "rd"
      refine ⟨b, _, 1, 1, rfl, rfl, hb, rfl, ?_⟩
      walk_at "rd"
      refine ⟨_, _, _, _, rfl, rfl, SqL.of upd_same, rfl, ?_⟩
      walk_at "rd"
      refine ⟨hm0, ?_⟩
      exact kk _ _ (Dr.put g _) (Int.emod_nonneg _ (by omega)) (Int.emod_lt_of_pos _ hm0) (fr _ (fun a o e n => by rw [upd_ne n]; exact e) (by rw [upd_same]; exact fun z => nomatch z))

theorem ok_one_of {K : PySem.W.Frag} {mg : Str → Option Value} {A0 : Ad} {P : Program} {w : World} {base : Heap} (T : Txt K mg A0) : FnOk P w K mg base CX0 2 A0.f_one_of A0.d_one_of ["_law_box", "_law_some"] (spOne K) := by
  have Gchoose := ok_choose (P := P) (w := w) (base := base) T
  refine T.F_one_of.ok sc_one_of (fun vs H Q E h => ?_) (fun cdv A outer s H vs Q E hr h => ?_)
  · obtain ⟨b, p, xs, rfl, hB, hS, npb, hl0, hl1, kk⟩ := h
    rfl
  · obtain ⟨b, p, xs, rfl, hB, hS, npb, hl0, hl1, kk⟩ := h
    have hr_choose : Room 1 _ := hr.mono (by decide)
    refine ⟨_, (pss_one (ps_ret (pe_ix ix_list (pv 1) (pe_call Gchoose hr_choose rfl T.g_choose T.k_choose T.b_choose .nil pass0 (pa_cons (pv 0) (pa_cons (pe_callB call_len_seq (by rfl) T.z_len (by decide +kernel) (pa_cons (pv 1) pa_nil)) pa_nil))) (fun _ _ => rfl)))), ?_⟩
    walk_at "rd"
    refine ⟨_, _, rfl, .inl hS, ?_⟩
    refine ⟨b, (xs.length : Int), rfl, hB, by omega, by omega, fun d H' D d0 d1 _ => ?_⟩
    obtain ⟨v, ev, mv⟩ := at_some d0 d1
    exact ⟨_, _, _, v, rfl, rfl, D.sqL npb hS, ev, kk v H' D mv⟩

theorem ok_told {K : PySem.W.Frag} {mg : Str → Option Value} {A0 : Ad} {P : Program} {w : World} {base : Heap} (T : Txt K mg A0) : FnOk P w K mg base CX0 3 A0.f_told A0.d_told ["_law_box", "_law_marks", "_law_most"] (spTold) := by
  have Gone_of := ok_one_of (P := P) (w := w) (base := base) T
  have Gchoose := ok_choose (P := P) (w := w) (base := base) T
  refine T.F_told.ok sc_told (fun vs H Q E h => ?_) (fun cdv A outer s H vs Q E hr h => ?_)
  · obtain ⟨b, z, m, rfl, hB, hz0, hz1, hm0, hm1, kk⟩ := h
    rfl
  · obtain ⟨b, z, m, rfl, hB, hz0, hz1, hm0, hm1, kk⟩ := h
    have hr_one_of : Room 2 _ := hr.mono (by decide)
    have hr_choose : Room 1 _ := hr.mono (by decide)
    refine ⟨_, (pss_one (ps_ret (pe_join pe_str (pe_lc (own := [("_law_turn", 3)]) (g := gName 3) (tt := tYes) rfl sc_told.nd (pi_range1 (by rfl) T.z_range (pa_cons (pe_call Gchoose hr_choose rfl T.g_choose T.k_choose T.b_choose .nil pass0 (pa_cons (pv 0) (pa_cons (pe_op op_add (pv 2) pe_int) pa_nil))) pa_nil)) (blkOk_by (own := [("_law_turn", 3)]) (N := N_told) (sc := defScope s_told) (by decide +kernel)) (fun _ _ _ _ _ => (pg_name (i := 3) sc_told.nd rfl (Or.inl rfl))) (fun _ _ _ _ _ => pts_nil) (fun _ _ _ _ _ => by exact (pe_call Gone_of hr_one_of rfl T.g_one_of T.k_one_of T.b_one_of .nil pass0 (pa_cons (pv 0) (pa_cons (pe_callTy (cr_listStr rfl) (by rfl) T.z_list (by decide +kernel) (pa_cons (pv 1) pa_nil)) pa_nil)))))))), ?_⟩
    walk_at "rd"
    refine ⟨hB, by omega, by omega, fun d H1 D1 d0 d1 _ => ?_⟩
    refine ⟨d, rfl, by omega, by omega, fun L nL => ?_⟩
    have nLb : L ≠ b := D1.bx.ne nL
    refine lc_range (lo := 0) (n := d.toNat) (fun i H' => ∃ ys : List Str, Dr b H H' ∧ H' L = some (.lst (ys.map V.str)) ∧ ys.length = i ∧ ∀ y ∈ ys, OneOf z y)
      ⟨[], D1.trans (.same D1.bx (same_upd nL)), upd_same, rfl, fun y hy => by cases hy⟩ (fun i H2 hi P2 => ?_) (fun H2 P2 => ?_)
    · obtain ⟨ys, D2, eL, hy, ho⟩ := P2
      walk_at "rd"
      refine ⟨le_lineN (by omega), fun p np => ?_⟩
      have D3 : Dr b H (upd H2 p (.lst (sgn z))) := D2.trans (.same D2.bx (same_upd np))
      have nLp : L ≠ p := ne_of_none eL np
      refine ⟨b, p, sgn z, rfl, D3.bx, SqL.of upd_same, D2.bx.ne np, by rw [sgn_len]; exact hz0, by rw [sgn_len]; exact hz1, fun v H3 D4 mv => ?_⟩
      obtain ⟨y, rfl, oy⟩ := sgn_mem mv
      have e3 : H3 L = some (.lst (ys.map V.str)) := D4.kp _ _ nLb (by rw [upd_ne nLp]; exact eL)
      refine ⟨_, e3, by rw [List.length_map]; exact Nat.lt_of_lt_of_le (show ys.length < 1000 by omega) (le_line rfl), ys ++ [y], ?_, ?_, ?_, ?_⟩
      · refine ⟨fun a o n e => ?_, ?_⟩
        · rw [upd_ne (ne_of_none e (D1.free nL))]
          exact D4.kp _ _ n (D3.kp _ _ n e)
        · obtain ⟨g, r, eb⟩ := D4.bx
          exact ⟨g, r, by rw [upd_ne nLb.symm]; exact eb⟩
      · rw [upd_same, List.map_append]
        rfl
      · rw [List.length_append, hy]
        rfl
      · intro x hx
        rcases List.mem_append.mp hx with hx | hx
        · exact ho x hx
        · rw [List.mem_singleton.mp hx]
          exact oy
    · obtain ⟨ys, D2, eL, hy, ho⟩ := P2
      refine ⟨_, L, ys, rfl, rfl, .inl (SqL.of eL), ?_, ?_⟩
      · rw [ones_len ho]
        show ys.length + ys.length * 0 ≤ 16777216
        omega
      · obtain ⟨h1, h2⟩ := ones_join ho
        refine kk _ _ D2 ?_ h2
        show ((Txt.join ⟨#[]⟩ ys).length : Int) ≤ m
        rw [h1]
        omega

theorem ok_tried {K : PySem.W.Frag} {mg : Str → Option Value} {A0 : Ad} {P : Program} {w : World} {base : Heap} (T : Txt K mg A0) : FnOk P w K mg base CX0 7 A0.f_tried A0.d_tried ["_law_given"] (spTried K) := by
  have GSetting_init := ok_Setting_init (P := P) (w := w) (base := base) T
  refine T.F_tried.ok sc_tried (fun vs H Q E h => ?_) (fun cdv A outer s0 H vs Q E hr h => ?_)
  · obtain ⟨l, s, h, t, u, a, b, c, e, rfl, hl, as, ah, at_, au, kk⟩ := h
    rfl
  · obtain ⟨l, s, h, t, u, a, b, c, e, rfl, hl, as, ah, at_, au, kk⟩ := h
    have hr_Setting_init : Room 5 _ := hr.mono (by decide)
    have hr_Setting : Room 6 _ := hr.mono (by decide)
    refine ⟨_, (pss_cons (ps_set (i := 1) sc_tried.nd rfl (Or.inl rfl) pe_non)
      (pss_cons (ps_try_as (i := 2) (tb := fun W => tDrop (tMakeS A0.c_Setting (spInit A0.c_Setting A0.c_InvalidSetting) [] (WE W) (tCons (tOp (rIxL K) (tVar 0) (tC (.int 0))) (tCons (tOp (rIxL K) (tVar 0) (tC (.int 1))) (tCons (tOp (rIxL K) (tVar 0) (tC (.int 2))) (tCons (tOp (rIxL K) (tVar 0) (tC (.int 3))) tNil))))))
          (ts := fun x cls dd => tAsg (tIf (tAnd (tB (tCB (rIsX K x cls dd) (tCons (tVar 2) (tCons (tC (.ref A0.c_GrowError)) tNil)))) (tNot (tB (tCB (rIsX K x cls dd) (tCons (tVar 2) (tCons (tC (.ref A0.c_InvalidProgram)) tNil)))))) (tXf x cls dd A0.c_InvalidSetting "word" (tVar 2)) (tC (.str "other"))) (gName 1))
          (Wout := fun _ _ _ _ => False) rfl rfl sc_tried.nd rfl rfl ⟨rfl, by decide, Or.inl T.g_InvalidSetting⟩ takes0
          (fun W pn xe tk _ => pss_one (ps_expr (by exact (pe_makeS T.m_Setting GSetting_init hr_Setting rfl T.g_Setting T.b_Setting_init .nil (fun σ => passAt tk σ)
            (pa_cons (pe_ix ix_list (pv 0) pe_int (fun _ _ => rfl)) (pa_cons (pe_ix ix_list (pv 0) pe_int (fun _ _ => rfl)) (pa_cons (pe_ix ix_list (pv 0) pe_int (fun _ _ => rfl)) (pa_cons (pe_ix ix_list (pv 0) pe_int (fun _ _ => rfl)) pa_nil))))))))
          (fun x oe cls dd pn hz hf => pss_one (ps_set (i := 1) sc_tried.nd rfl (Or.inl rfl) (by exact (pe_ifExp (PW.pt (pw_and (pt_val (pe_callB (cr_isX hz hf) (by rfl) T.z_isinstance (by decide +kernel) (pa_cons (pv 2) (pa_cons (pe_glob rfl T.g_GrowError rfl) pa_nil))))
            (pw_and1 (pt_not (pt_val (pe_callB (cr_isX hz hf) (by rfl) T.z_isinstance (by decide +kernel) (pa_cons (pv 2) (pa_cons (pe_glob rfl T.g_InvalidProgram rfl) pa_nil)))))))) (pe_xf T.x_InvalidSetting T.n_InvalidSetting hz hf (pv 2)) pe_str)))))
      (pss_one (ps_ret (pv 1))))), ?_⟩
    have ix : ∀ (i : Nat) (x : V), ([s, h, t, u] : List V)[i]? = some x → atI [s, h, t, u] (i : Int) = some x := fun i x q => atI_nat q
    refine ⟨_, rfl, _, _, 0, s, rfl, rfl, SqL.of hl, rfl, _, rfl, _, _, 1, h, rfl, rfl, SqL.of hl, rfl, _, rfl, _, _, 2, t, rfl, rfl, SqL.of hl, rfl, _, rfl, _, _, 3, u, rfl, rfl, SqL.of hl, rfl, ?_⟩
    intro p dx np ndx ne
    have s1 : Same H (upd (upd H dx (.own p)) p (.ins A0.c_Setting dx [])) := (same_upd ndx).trans (same_upd (by rw [upd_ne ne.symm]; exact np))
    refine ⟨p, dx, s, h, t, u, a, b, c, e, rfl, upd_same, as.same s1, ah.same s1, at_.same s1, au.same s1, fun ef H' k1 _ => ⟨rfl, ?_⟩, fun w1 ef d2 H' s2 n2 e2 => ?_⟩
    · refine ⟨_, rfl, ?_⟩
      have s3 : Same H H' := fun b' o q => k1 _ _ (ne_of_none q np) (s1 _ _ q)
      have := kk H' s3
      rw [ef] at this
      exact this
    · refine ⟨true, T.s_InvalidSetting, fun _ x nx => ?_, fun q => nomatch q⟩
      refine ⟨_, rfl, A0.c_InvalidSetting, d2, _, _, _, true, rfl, rfl, rfl, e2, T.e_InvalidSetting, fun _ q => q, T.is_InvalidSetting_GrowError, _, rfl, ?_⟩
      refine ⟨_, rfl, A0.c_InvalidSetting, d2, _, _, _, false, rfl, rfl, rfl, e2, T.e_InvalidSetting, fun _ q => q, T.is_InvalidSetting_InvalidProgram, _, rfl, ?_⟩
      refine ⟨_, rfl, rfl, rfl, d2, _, .str w1, rfl, e2, rfl, ?_⟩
      refine ⟨_, rfl, ?_⟩
      have := kk H' (s1.trans s2)
      rw [ef] at this
      exact this

end
end My

namespace My
open PySem PySem.Spec PyProof.Rows L2

local macro_rules | `(tactic| walk_at "rd") => `(tactic| (repeat (first
  | (refine ⟨_, rfl, ?_⟩) | (refine ⟨_, _, rfl, rfl, ?_⟩) | (refine ⟨_, _, rfl, ?_⟩) | (refine ⟨rfl, ?_⟩) | (refine ⟨⟨_, rfl⟩, ?_⟩)
  | (refine ⟨.inl (by decide), ?_⟩) | (refine ⟨.inr (by decide), ?_⟩) | (refine ⟨⟨by decide, by decide⟩, ?_⟩) | (refine ⟨⟨by decide, by decide, by decide⟩, ?_⟩) | (refine ⟨by decide, ?_⟩)
  | (refine ⟨(by show (0 : Int) < _; decide), ?_⟩)
  | (refine ⟨le_line rfl, ?_⟩) | (refine .inl ⟨_, rfl, ?_⟩) | (refine ⟨_, _, _, _, rfl, rfl, SqL.of (by assumption), rfl, ?_⟩))))


def spAny (n : Nat) : Sp := fun vs H Q _ => ∃ (b : Addr) (m : Int), vs = [.ref b, .int m] ∧ B2 H b ∧ m < n ∧ ∀ (x : V) (t : Tg) (H' : Hp), Dr b H H' → Av H' x t → Q x H'
theorem abc_lit {z : Str} (h : (z.cps.toList.all fun c => decide (c < 128)) = true) (hl : Nat.ble z.length 1000 = true) : Abc z ∧ z.length ≤ 1000 :=
  ⟨fun c hc => of_decide_eq_true (List.all_eq_true.mp h c hc), Nat.le_of_ble_eq_true hl⟩

section
theorem ok_anything {K : PySem.W.Frag} {mg : Str → Option Value} {A0 : Ad} {P : Program} {w : World} {base : Heap} (T : Txt K mg A0) : ∀ n : Nat, FnOk P w K mg base CX0 (n + 3) A0.f_anything A0.d_anything ["_law_box", "_law_deep"] (spAny n) := by
  have Gchoose := ok_choose (P := P) (w := w) (base := base) T
  have Gone_of := ok_one_of (P := P) (w := w) (base := base) T
  intro n
  induction n with
  | zero =>
    refine T.F_anything.ok sc_anything (fun vs H Q E h => ?_) (fun cdv A outer s H vs Q E hr h => ?_)
    · obtain ⟨b, m, rfl, _⟩ := h
      rfl
    · obtain ⟨b, m, rfl, hB, hm, kk⟩ := h
      have hr_choose : Room 1 _ := hr.mono (by decide)
      have hr_one_of : Room 2 _ := hr.mono (by decide)
      refine ⟨_, (pss_cons (ps_set (i := 2) sc_anything.nd rfl (Or.inl rfl) (pe_call Gchoose hr_choose rfl T.g_choose T.k_choose T.b_choose .nil pass0 (pa_cons (pv 0) (pa_cons pe_int pa_nil))))
      (pss_cons (ps_if (PW.pt (pw_or (pt_cmpR op_lt (pv 1) pe_int (nomark _)) (pw_or1 (pt_cmpR op_lt (pv 2) pe_int (nomark _))))) (pss_cons (ps_set (i := 3) sc_anything.nd rfl (Or.inl rfl) (pe_lst (pa_cons pe_non (pa_cons pe_bl (pa_cons pe_bl (pa_cons pe_int (pa_cons pe_int (pa_cons (pe_un un_neg pe_int) (pa_cons (pe_op op_pow pe_int pe_int) (pa_cons pe_str (pa_cons pe_str (pa_cons pe_str (pa_cons pe_str (pa_cons pe_str (pa_cons pe_str (pa_cons (pe_tup (pa_cons pe_str (pa_cons pe_int pa_nil))) (pa_cons (pe_tup pa_nil) (pa_cons (pe_lst pa_nil) pa_nil))))))))))))))))))
      (pss_one (ps_ret (pe_call Gone_of hr_one_of rfl T.g_one_of T.k_one_of T.b_one_of .nil pass0 (pa_cons (pv 0) (pa_cons (pv 3) pa_nil)))))) pss_nil)
      (pss_cons ps_never (pss_one ps_never)))), ?_⟩
      walk_at "rd"
      refine ⟨hB, by decide, by decide, fun d H1 D1 d0 d1 _ => ?_⟩
      walk_at "rd"
      refine ite2 (fun _ => ?_) (fun q => absurd (decide_eq_true (show m < 1 by omega)) q)
      walk_at "rd"
      intro T1 n1
      walk_at "rd"
      intro T2 n2
      walk_at "rd"
      intro L3 n3
      walk_at "rd"
      intro P n4
      have q1 : Same H1 (upd H1 T1 (.tup [.str "box", .int 0])) := same_upd n1
      have q2 := same_upd (o := .tup []) n2
      have q3 := same_upd (o := .lst []) n3
      have q4 := same_upd (o := .lst [.non, .bl true, .bl false, .int 0, .int 1, .int (-3), .int (10 ^ 17), .str "", .str "a", .str "ab.0.", .str "A", .str "x", .str "told", .ref T1, .ref T2, .ref L3]) n4
      have q14 := q1.trans (q2.trans (q3.trans q4))
      have D2 : Dr b H _ := D1.trans (.same D1.bx q14)
      have a1 := Av.tup (q4 _ _ (q3 _ _ (q2 _ _ (show _ = some (HO.tup [V.str "box", V.int 0]) from upd_same (a := T1)))))
      have a2 := Av.tup (q4 _ _ (q3 _ _ (show _ = some (HO.tup []) from upd_same (a := T2))))
      have a3 := Av.lst (q4 _ _ (show _ = some (HO.lst []) from upd_same (a := L3)))
      walk_at "rd"
      refine ⟨b, P, _, rfl, D2.bx, SqL.of upd_same, ?_, Nat.le_of_ble_eq_true rfl, Nat.le_of_ble_eq_true rfl, fun v H5 D5 mv => ?_⟩
      · exact (D1.trans (.same D1.bx (q1.trans (q2.trans q3)))).bx.ne n4
      have fin : ∀ {t : Tg}, Av _ v t → Q v H5 := fun a => kk _ _ H5 (D2.trans D5) (a.dr D5 D2.bx)
      simp only [List.mem_cons, List.not_mem_nil, or_false] at mv
      rcases mv with rfl | rfl | rfl | rfl | rfl | rfl | rfl | rfl | rfl | rfl | rfl | rfl | rfl | rfl | rfl | rfl
      · exact fin .non
      · exact fin (.bl _)
      · exact fin (.bl _)
      · exact fin (.int _)
      · exact fin (.int _)
      · exact fin (.int _)
      · exact fin (.int _)
      · exact fin (.str _ (abc_lit (by decide +kernel) rfl))
      · exact fin (.str _ (abc_lit (by decide +kernel) rfl))
      · exact fin (.str _ (abc_lit (by decide +kernel) rfl))
      · exact fin (.str _ (abc_lit (by decide +kernel) rfl))
      · exact fin (.str _ (abc_lit (by decide +kernel) rfl))
      · exact fin (.str _ (abc_lit (by decide +kernel) rfl))
      · exact fin a1
      · exact fin a2
      · exact fin a3
  | succ n ih =>
    refine T.F_anything.ok sc_anything (fun vs H Q E h => ?_) (fun cdv A outer s H vs Q E hr h => ?_)
    · obtain ⟨b, m, rfl, _⟩ := h
      rfl
    · obtain ⟨b, m, rfl, hB, hm, kk⟩ := h
      have hr_choose : Room 1 _ := hr.mono (by omega)
      have hr_one_of : Room 2 _ := hr.mono (by omega)
      have hr_anything : Room (n + 3) _ := hr.mono (by omega)
      have Ganything := ih
      refine ⟨_, (pss_cons (ps_set (i := 2) sc_anything.nd rfl (Or.inl rfl) (pe_call Gchoose hr_choose rfl T.g_choose T.k_choose T.b_choose .nil pass0 (pa_cons (pv 0) (pa_cons pe_int pa_nil))))
      (pss_cons (ps_if (PW.pt (pw_or (pt_cmpR op_lt (pv 1) pe_int (nomark _)) (pw_or1 (pt_cmpR op_lt (pv 2) pe_int (nomark _))))) (pss_cons (ps_set (i := 3) sc_anything.nd rfl (Or.inl rfl) (pe_lst (pa_cons pe_non (pa_cons pe_bl (pa_cons pe_bl (pa_cons pe_int (pa_cons pe_int (pa_cons (pe_un un_neg pe_int) (pa_cons (pe_op op_pow pe_int pe_int) (pa_cons pe_str (pa_cons pe_str (pa_cons pe_str (pa_cons pe_str (pa_cons pe_str (pa_cons pe_str (pa_cons (pe_tup (pa_cons pe_str (pa_cons pe_int pa_nil))) (pa_cons (pe_tup pa_nil) (pa_cons (pe_lst pa_nil) pa_nil))))))))))))))))))
      (pss_one (ps_ret (pe_call Gone_of hr_one_of rfl T.g_one_of T.k_one_of T.b_one_of .nil pass0 (pa_cons (pv 0) (pa_cons (pv 3) pa_nil)))))) pss_nil)
      (pss_cons (ps_setLc (i := 4) (own := [("_law_turn", 5)]) (g := gName 5) (tt := tYes) rfl sc_anything.nd rfl rfl (sw_true rfl rfl rfl (by decide +kernel)) (pi_range1 (by rfl) T.z_range (pa_cons (pe_call Gchoose hr_choose rfl T.g_choose T.k_choose T.b_choose .nil pass0 (pa_cons (pv 0) (pa_cons pe_int pa_nil))) pa_nil)) (blkOk_by (own := [("_law_turn", 5)]) (N := N_anything) (sc := defScope s_anything) (by decide +kernel)) (fun _ _ _ _ _ => (pg_name (i := 5) sc_anything.nd rfl (Or.inl rfl))) (fun _ _ _ _ _ => pts_nil) (fun _ _ _ _ _ => by exact (pe_call Ganything hr_anything rfl T.g_anything T.k_anything T.b_anything .nil pass0 (pa_cons (pv 0) (pa_cons (pe_op op_sub (pv 1) pe_int) pa_nil)))))
      (pss_one (ps_ret (pe_ifExp (pt_cmpR op_lt (pv 2) pe_int (nomark _)) (pe_callTy call_tuple_of (by rfl) T.z_tuple (by decide +kernel) (pa_cons (pv 4) pa_nil)) (pv 4))))))), ?_⟩
      walk_at "rd"
      refine ⟨hB, by decide, by decide, fun d H1 D1 d0 d1 _ => ?_⟩
      walk_at "rd"
      refine ite2 (fun _ => ?_) (fun _ => ?_)
      · walk_at "rd"
        intro T1 n1
        walk_at "rd"
        intro T2 n2
        walk_at "rd"
        intro L3 n3
        walk_at "rd"
        intro P n4
        have q1 : Same H1 (upd H1 T1 (.tup [.str "box", .int 0])) := same_upd n1
        have q2 := same_upd (o := .tup []) n2
        have q3 := same_upd (o := .lst []) n3
        have q4 := same_upd (o := .lst [.non, .bl true, .bl false, .int 0, .int 1, .int (-3), .int (10 ^ 17), .str "", .str "a", .str "ab.0.", .str "A", .str "x", .str "told", .ref T1, .ref T2, .ref L3]) n4
        have q14 := q1.trans (q2.trans (q3.trans q4))
        have D2 : Dr b H _ := D1.trans (.same D1.bx q14)
        have a1 := Av.tup (q4 _ _ (q3 _ _ (q2 _ _ (show _ = some (HO.tup [V.str "box", V.int 0]) from upd_same (a := T1)))))
        have a2 := Av.tup (q4 _ _ (q3 _ _ (show _ = some (HO.tup []) from upd_same (a := T2))))
        have a3 := Av.lst (q4 _ _ (show _ = some (HO.lst []) from upd_same (a := L3)))
        walk_at "rd"
        refine ⟨b, P, _, rfl, D2.bx, SqL.of upd_same, ?_, Nat.le_of_ble_eq_true rfl, Nat.le_of_ble_eq_true rfl, fun v H5 D5 mv => ?_⟩
        · exact (D1.trans (.same D1.bx (q1.trans (q2.trans q3)))).bx.ne n4
        have fin : ∀ {t : Tg}, Av _ v t → Q v H5 := fun a => kk _ _ H5 (D2.trans D5) (a.dr D5 D2.bx)
        simp only [List.mem_cons, List.not_mem_nil, or_false] at mv
        rcases mv with rfl | rfl | rfl | rfl | rfl | rfl | rfl | rfl | rfl | rfl | rfl | rfl | rfl | rfl | rfl | rfl
        · exact fin .non
        · exact fin (.bl _)
        · exact fin (.bl _)
        · exact fin (.int _)
        · exact fin (.int _)
        · exact fin (.int _)
        · exact fin (.int _)
        · exact fin (.str _ (abc_lit (by decide +kernel) rfl))
        · exact fin (.str _ (abc_lit (by decide +kernel) rfl))
        · exact fin (.str _ (abc_lit (by decide +kernel) rfl))
        · exact fin (.str _ (abc_lit (by decide +kernel) rfl))
        · exact fin (.str _ (abc_lit (by decide +kernel) rfl))
        · exact fin (.str _ (abc_lit (by decide +kernel) rfl))
        · exact fin a1
        · exact fin a2
        · exact fin a3
      · walk_at "rd"
        refine ite2 (fun _ => ?_) (fun _ => ?_)
        · walk_at "rd"
          intro T1 n1
          walk_at "rd"
          intro T2 n2
          walk_at "rd"
          intro L3 n3
          walk_at "rd"
          intro P n4
          have q1 : Same H1 (upd H1 T1 (.tup [.str "box", .int 0])) := same_upd n1
          have q2 := same_upd (o := .tup []) n2
          have q3 := same_upd (o := .lst []) n3
          have q4 := same_upd (o := .lst [.non, .bl true, .bl false, .int 0, .int 1, .int (-3), .int (10 ^ 17), .str "", .str "a", .str "ab.0.", .str "A", .str "x", .str "told", .ref T1, .ref T2, .ref L3]) n4
          have q14 := q1.trans (q2.trans (q3.trans q4))
          have D2 : Dr b H _ := D1.trans (.same D1.bx q14)
          have a1 := Av.tup (q4 _ _ (q3 _ _ (q2 _ _ (show _ = some (HO.tup [V.str "box", V.int 0]) from upd_same (a := T1)))))
          have a2 := Av.tup (q4 _ _ (q3 _ _ (show _ = some (HO.tup []) from upd_same (a := T2))))
          have a3 := Av.lst (q4 _ _ (show _ = some (HO.lst []) from upd_same (a := L3)))
          walk_at "rd"
          refine ⟨b, P, _, rfl, D2.bx, SqL.of upd_same, ?_, Nat.le_of_ble_eq_true rfl, Nat.le_of_ble_eq_true rfl, fun v H5 D5 mv => ?_⟩
          · exact (D1.trans (.same D1.bx (q1.trans (q2.trans q3)))).bx.ne n4
          have fin : ∀ {t : Tg}, Av _ v t → Q v H5 := fun a => kk _ _ H5 (D2.trans D5) (a.dr D5 D2.bx)
          simp only [List.mem_cons, List.not_mem_nil, or_false] at mv
          rcases mv with rfl | rfl | rfl | rfl | rfl | rfl | rfl | rfl | rfl | rfl | rfl | rfl | rfl | rfl | rfl | rfl
          · exact fin .non
          · exact fin (.bl _)
          · exact fin (.bl _)
          · exact fin (.int _)
          · exact fin (.int _)
          · exact fin (.int _)
          · exact fin (.int _)
          · exact fin (.str _ (abc_lit (by decide +kernel) rfl))
          · exact fin (.str _ (abc_lit (by decide +kernel) rfl))
          · exact fin (.str _ (abc_lit (by decide +kernel) rfl))
          · exact fin (.str _ (abc_lit (by decide +kernel) rfl))
          · exact fin (.str _ (abc_lit (by decide +kernel) rfl))
          · exact fin (.str _ (abc_lit (by decide +kernel) rfl))
          · exact fin a1
          · exact fin a2
          · exact fin a3
        · walk_at "rd"
          refine ⟨D1.bx, by decide, by decide, fun d2 H2 D2 d20 d21 _ => ?_⟩
          have D02 := D1.trans D2
          walk_at "rd"
          refine ⟨by omega, by omega, fun L nL => ?_⟩
          have nLb : L ≠ b := D2.bx.ne nL
          refine lc_range (lo := 0) (n := d2.toNat) (fun i H' => ∃ ys : List V, Dr b H H' ∧ H' L = some (.lst ys) ∧ ys.length = i)
            ⟨[], D02.trans (.same D2.bx (same_upd nL)), upd_same, rfl⟩ (fun i H3 hi P3 => ?_) (fun H3 P3 => ?_)
          · obtain ⟨ys, D3, eL, hy⟩ := P3
            walk_at "rd"
            refine ⟨D3.bx, by omega, fun x t H4 D4 ax => ?_⟩
            have e4 := D4.kp _ _ nLb eL
            refine ⟨ys, e4, Nat.lt_of_lt_of_le (show ys.length < 1000 by omega) (le_line rfl), ys ++ [x], ?_, upd_same, by rw [List.length_append, hy]; rfl⟩
            refine ⟨fun p o nn q => ?_, ?_⟩
            · rw [upd_ne (ne_of_none q (D02.free nL))]
              exact D4.kp _ _ nn (D3.kp _ _ nn q)
            · obtain ⟨g, r, eb⟩ := D4.bx
              exact ⟨g, r, by rw [upd_ne nLb.symm]; exact eb⟩
          · obtain ⟨ys, D3, eL, hy⟩ := P3
            walk_at "rd"
            refine ite2 (fun _ => ?_) (fun _ => ?_)
            · walk_at "rd"
              refine ⟨L, ys, rfl, .inl ⟨SqL.of eL, fun p np => ?_⟩⟩
              exact kk _ .tup _ (D3.trans (.same D3.bx (same_upd np))) (.tup upd_same)
            · walk_at "rd"
              exact kk _ .lst _ D3 (.lst eL)

end
end My

namespace My
open PySem PySem.Spec PyProof.Rows L2

local macro_rules | `(tactic| walk_at "rd") => `(tactic| (repeat (first
  | (refine ⟨_, rfl, ?_⟩) | (refine ⟨_, _, rfl, rfl, ?_⟩) | (refine ⟨_, _, rfl, ?_⟩) | (refine ⟨rfl, ?_⟩) | (refine ⟨⟨_, rfl⟩, ?_⟩)
  | (refine ⟨.inl (by decide), ?_⟩) | (refine ⟨.inr (by decide), ?_⟩) | (refine ⟨⟨by decide, by decide⟩, ?_⟩) | (refine ⟨⟨by decide, by decide, by decide⟩, ?_⟩) | (refine ⟨by decide, ?_⟩)
  | (refine ⟨(by show (0 : Int) < _; decide), ?_⟩)
  | (refine ⟨le_line rfl, ?_⟩) | (refine .inl ⟨_, rfl, ?_⟩) | (refine ⟨_, _, _, _, rfl, rfl, SqL.of (by assumption), rfl, ?_⟩))))


def spFree : Sp := fun vs H Q _ => ∃ (b : Addr) (z : Str), vs = [.ref b, .str z] ∧ B2 H b ∧ 0 < z.length ∧ z.length < 1000 ∧ wordB z = true ∧
  ∀ (p : Addr) (s h t u : V) (a c d e : Tg) (H' : Hp), Dr b H H' → H' p = some (.tup [s, h, t, u]) → fw s h t u = none → Av H' s a → Av H' h c → Av H' t d → Av H' u e → Q (.ref p) H'
theorem word_sub {y z : Str} (h : ∀ c ∈ y.cps.toList, c ∈ z.cps.toList) (w : wordB z = true) : wordB y = true :=
  List.all_eq_true.mpr fun c hc => List.all_eq_true.mp w c (h c hc)
theorem word_abc {y : Str} (w : wordB y = true) : Abc y := fun c hc => by
  have := of_decide_eq_true (List.all_eq_true.mp w c hc)
  omega
theorem fw_ok0 {y : Str} (w : wordB y = true) : fw .non (.str y) (.str Str.empty) (.bl false) = none :=
  fw_none (fun q => q.1 rfl) w (fun q => q.elim (fun q => by cases q) fun q => q.1 rfl) fun q => q.elim (fun q => q ⟨_, rfl⟩) fun q => by cases q.1
theorem fw_ok1 {i : Int} {y x : Str} {k : Bool} (hi : 0 ≤ i) (w : wordB y = true) (w2 : wordB x = true) : fw (.int i) (.str y) (.str x) (.bl k) = none :=
  fw_none (fun q => by have z : decide (0 ≤ i) = false := q.2; rw [decide_eq_true hi] at z; cases z) w
    (fun q => q.elim (fun q => by have z : wordB x = false := q; rw [w2] at z; cases z) fun q => by cases q.2)
    fun q => q.elim (fun q => q ⟨_, rfl⟩) fun q => by cases q.2

theorem alph : ∀ c, c < 128 → decide (c ∈ (PySem.Str.ofString "abcdefghijklmnopqrstuvwxyz").cps.toList) = decide (97 ≤ c ∧ c ≤ 122) := by decide +kernel
/-- the signs that are none -/
def odd1 (z : Str) : List Str := (z.cps.toList.filter fun c => !decide (97 ≤ c ∧ c ≤ 122)).map fun c => ⟨#[c]⟩
theorem odd_nil (z : Str) : (odd1 z = []) ↔ wordB z = true := by
  unfold odd1 wordB
  rw [List.map_eq_nil_iff, List.filter_eq_nil_iff, List.all_eq_true]
  constructor <;> intro h c hc <;> have := h c hc <;> simpa using this
theorem strs_dp {K : PySem.W.Frag} {H : Hp} : ∀ ys : List Str, DpAll K H (ys.map V.str) (ys.map .str)
  | [] => .nil
  | y :: r => .cons (.str _) (strs_dp r)
theorem strs_ok : ∀ ys : List Str, (∀ y ∈ ys, Abc y) → PyData.canLayAll0 (ys.map .str) = true ∧ PyData.depthAll (ys.map .str) ≤ 0
  | [], _ => ⟨rfl, Nat.zero_le _⟩
  | y :: r, h => by
    obtain ⟨i1, i2⟩ := strs_ok r fun x hx => h x (List.mem_cons_of_mem _ hx)
    have h0 : PyData.strOk y = true := by
      unfold PyData.strOk
      rw [Array.all_eq_true_iff_forall_mem]
      intro c hc
      have := h y (List.mem_cons_self ..) c (by simpa using hc)
      exact decide_eq_true (by omega)
    refine ⟨?_, ?_⟩
    · show (PyData.strOk y && PyData.canLayAll0 (r.map .str)) = true
      rw [h0, i1]
      rfl
    · show max 0 (PyData.depthAll (r.map .str)) ≤ 0
      omega
theorem strs_shaped {ys : List Str} (h : ∀ y ∈ ys, Abc y) : SeqAt.shaped (.list (ys.map .str)) = true := by
  obtain ⟨a, b⟩ := strs_ok ys h
  unfold SeqAt.shaped
  rw [Bool.and_eq_true]
  refine ⟨a, decide_eq_true ?_⟩
  show PyData.depthAll (ys.map .str) + 1 ≤ 64
  omega
theorem strs_eqv (ys : List Str) : PyData.eqv (.list (ys.map .str)) (.list []) = decide (ys = []) := by
  cases ys with
  | nil => rfl
  | cons y r => rw [decide_eq_false (fun q => nomatch q)]; rfl

section
theorem ok_free {K : PySem.W.Frag} {mg : Str → Option Value} {A0 : Ad} {P : Program} {w : World} {base : Heap} (T : Txt K mg A0) : FnOk P w K mg base CX0 4 A0.f_free A0.d_free ["_law_box", "_law_marks"] (spFree) := by
  have Gchoose := ok_choose (P := P) (w := w) (base := base) T
  have Gone_of := ok_one_of (P := P) (w := w) (base := base) T
  have Gtold := ok_told (P := P) (w := w) (base := base) T
  refine T.F_free.ok sc_free (fun vs H Q E h => ?_) (fun cdv A outer s H vs Q E hr h => ?_)
  · obtain ⟨b, z, rfl, hB, hz0, hz1, hw, kk⟩ := h
    rfl
  · obtain ⟨b, z, rfl, hB, hz0, hz1, hw, kk⟩ := h
    have hr_choose : Room 1 _ := hr.mono (by decide)
    have hr_one_of : Room 2 _ := hr.mono (by decide)
    have hr_told : Room 3 _ := hr.mono (by decide)
    refine ⟨_, (pss_cons (ps_if (pt_cmpR op_eq (pe_call Gchoose hr_choose rfl T.g_choose T.k_choose T.b_choose .nil pass0 (pa_cons (pv 0) (pa_cons pe_int pa_nil))) pe_int (nomark _)) (pss_one (ps_ret (pe_tup (pa_cons pe_non (pa_cons (pe_call Gtold hr_told rfl T.g_told T.k_told T.b_told .nil pass0 (pa_cons (pv 0) (pa_cons (pv 1) (pa_cons pe_int pa_nil)))) (pa_cons pe_str (pa_cons pe_bl pa_nil))))))) pss_nil)
      (pss_cons (ps_par (i := 2) (j := 3) (by rfl) sc_free.nd rfl rfl (by decide) rfl rfl (pa_cons (pe_call Gone_of hr_one_of rfl T.g_one_of T.k_one_of T.b_one_of .nil pass0 (pa_cons (pv 0) (pa_cons (pe_lst (pa_cons pe_int (pa_cons pe_int (pa_cons pe_int (pa_cons pe_int (pa_cons pe_int pa_nil)))))) pa_nil))) (pa_cons (pe_call Gtold hr_told rfl T.g_told T.k_told T.b_told .nil pass0 (pa_cons (pv 0) (pa_cons (pv 1) (pa_cons pe_int pa_nil)))) pa_nil)) (by rfl))
      (pss_one (ps_ret (pe_tup (pa_cons (pv 2) (pa_cons (pv 3) (pa_cons (pe_call Gtold hr_told rfl T.g_told T.k_told T.b_told .nil pass0 (pa_cons (pv 0) (pa_cons (pv 1) (pa_cons pe_int pa_nil)))) (pa_cons (pe_cmpR op_eq (pe_call Gchoose hr_choose rfl T.g_choose T.k_choose T.b_choose .nil pass0 (pa_cons (pv 0) (pa_cons pe_int pa_nil))) pe_int (nomark _)) pa_nil))))))))), ?_⟩
    walk_at "rd"
    refine ⟨hB, by decide, by decide, fun d H1 D1 d0 d1 _ => ?_⟩
    walk_at "rd"
    refine ite2 (fun h0 => ?_) (fun h0 => ?_)
    · walk_at "rd"
      refine ⟨b, z, 3, rfl, D1.bx, hz0, hz1, by decide, by decide, fun y H2 D2 ly cy => ?_⟩
      walk_at "rd"
      intro p np
      have wy := word_sub cy hw
      refine kk p _ _ _ _ .non .str .str .bl _ ((D1.trans D2).trans (.same D2.bx (same_upd np))) upd_same (fw_ok0 wy) .non (.str y ⟨word_abc wy, by omega⟩) (.str _ ⟨(fun c hc => by cases hc), Nat.zero_le _⟩) (.bl _)
    · walk_at "rd"
      intro L nL
      have D2 : Dr b H1 (upd H1 L (.lst [.int 0, .int 1, .int 1, .int 7, .int 12])) := .same D1.bx (same_upd nL)
      refine ⟨b, L, _, rfl, D2.bx, SqL.of upd_same, D1.bx.ne nL, Nat.le_of_ble_eq_true rfl, Nat.le_of_ble_eq_true rfl, fun v H3 D3 mv => ?_⟩
      obtain ⟨i, rfl, hi⟩ : ∃ i : Int, v = .int i ∧ 0 ≤ i := by
        simp only [List.mem_cons, List.not_mem_nil, or_false] at mv
        rcases mv with rfl | rfl | rfl | rfl | rfl <;> exact ⟨_, rfl, by decide⟩
      walk_at "rd"
      refine ⟨b, z, 3, rfl, D3.bx, hz0, hz1, by decide, by decide, fun y H4 D4 ly cy => ?_⟩
      walk_at "rd"
      refine ⟨b, z, 3, rfl, D4.bx, hz0, hz1, by decide, by decide, fun x H5 D5 lx cx => ?_⟩
      walk_at "rd"
      refine ⟨D5.bx, by decide, by decide, fun d6 H6 D6 _ _ _ => ?_⟩
      walk_at "rd"
      intro p np
      have wy := word_sub cy hw
      have wx := word_sub cx hw
      exact kk p _ _ _ _ .int .str .str .bl _ ((D1.trans (D2.trans (D3.trans (D4.trans (D5.trans D6))))).trans (.same D6.bx (same_upd np))) upd_same (fw_ok1 hi wy wx) (.int _) (.str y ⟨word_abc wy, by omega⟩) (.str x ⟨word_abc wx, by omega⟩) (.bl _)

theorem ok_is_plain {K : PySem.W.Frag} {mg : Str → Option Value} {A0 : Ad} {P : Program} {w : World} {base : Heap} (T : Txt K mg A0) : FnOk P w K mg base CX0 1 A0.f_is_plain A0.d_is_plain ["_law_value"] (spWord) := by
  refine T.F_is_plain.ok sc_is_plain (fun vs H Q E h => ?_) (fun cdv A outer s H vs Q E hr h => ?_)
  · obtain ⟨x, t, rfl, av, kk⟩ := h
    rfl
  · obtain ⟨x, t, rfl, av, kk⟩ := h
    refine ⟨_, (pss_cons (ps_if (pt_not (pt_val (pe_callB cr_isA (by rfl) T.z_isinstance (by decide +kernel) (pa_cons (pv 0) (pa_cons (pe_bltn (v := .ty "str") (by rfl) T.z_str (by decide +kernel) rfl) pa_nil))))) (pss_one (ps_ret pe_bl)) pss_nil)
      (pss_one (ps_ret (pe_cmpR (op_eqD hr.units) (pe_lc (own := [("_law_sign", 1)]) (g := gName 1) rfl sc_is_plain.nd (pi_str (pv 0)) (blkOk_by (own := [("_law_sign", 1)]) (N := N_is_plain) (sc := defScope s_is_plain) (by decide +kernel)) (fun _ _ _ _ _ => (pg_name (i := 1) sc_is_plain.nd rfl (Or.inl rfl))) (fun _ _ _ _ _ => (pts_one (pt_cmpR op_notIn_sign (pv 1) pe_str rfl))) (fun _ _ _ _ _ => by exact (pv 1))) (pe_lst pa_nil) (nomark _))))), ?_⟩
    cases av with
    | non => walk_at "rd"; exact ⟨_, _, _, rfl, .inr (.inr (.inl rfl)), .non, _, rfl, kk _ (Same.refl _)⟩
    | bl b => walk_at "rd"; exact ⟨_, _, _, rfl, .inr (.inr (.inl rfl)), .bl b, _, rfl, kk _ (Same.refl _)⟩
    | int i => walk_at "rd"; exact ⟨_, _, _, rfl, .inr (.inr (.inl rfl)), .int i, _, rfl, kk _ (Same.refl _)⟩
    | lst e => walk_at "rd"; exact ⟨_, _, _, rfl, .inr (.inr (.inl rfl)), .lst e, _, rfl, kk _ (Same.refl _)⟩
    | tup e => walk_at "rd"; exact ⟨_, _, _, rfl, .inr (.inr (.inl rfl)), .tup e, _, rfl, kk _ (Same.refl _)⟩
    | str z hz =>
      walk_at "rd"
      refine ⟨_, _, _, rfl, .inr (.inr (.inl rfl)), .str z hz, _, rfl, ?_⟩
      refine ⟨_, rfl, z, rfl, fun D nD => ?_⟩
      have hzl : z.cps.toList.length = z.length := len_cps z
      refine lc_it walk_str (fun i H' => Same H H' ∧ ∃ ys : List Str, H' D = some (.lst (ys.map V.str)) ∧ ys = ((z.cps.toList.take i).filter fun c => !decide (97 ≤ c ∧ c ≤ 122)).map fun c => ⟨#[c]⟩)
        ⟨same_upd nD, [], upd_same, rfl⟩ (fun _ _ _ _ => trivial) (fun i x H1 H2 hi P1 Y1 => ?_) (fun H1 P1 => ?_)
      · obtain ⟨s1, ys, eD, ey⟩ := P1
        obtain ⟨rfl, c, ec, rfl⟩ := Y1
        have ec' : z.cps.toList[i]? = some c := by simpa using ec
        have hc : c < 128 := hz.1 c (List.mem_of_getElem? ec')
        have tk : z.cps.toList.take (i + 1) = z.cps.toList.take i ++ [c] := by rw [List.take_add_one, ec']; rfl
        refine ⟨rfl, ?_⟩
        refine ⟨_, rfl, c, _, rfl, rfl, _, rfl, ?_⟩
        rw [alph c hc]
        refine ite2 (fun h1 => ?_) (fun h1 => ?_)
        · refine ⟨_, rfl, _, eD, ?_, fun b o e => by rw [upd_ne (ne_of_none e nD)]; exact s1 _ _ e, ys ++ [⟨#[c]⟩], ?_, ?_⟩
          · have hf := List.length_filter_le (fun c => !decide (97 ≤ c ∧ c ≤ 122)) (z.cps.toList.take i)
            rw [List.length_take] at hf
            rw [List.length_map, ey, List.length_map]
            exact Nat.lt_of_lt_of_le (show _ < 1001 by omega) (le_lineN (by omega))
          · rw [upd_same, List.map_append]
            rfl
          · rw [tk, List.filter_append, List.map_append, ey]
            congr 1
            rw [List.filter_cons, if_pos h1]
            rfl
        · refine ⟨s1, ys, eD, ?_⟩
          rw [tk, List.filter_append, List.map_append, ey, List.filter_cons, if_neg h1]
          simp
      · obtain ⟨s1, ys, eD, ey⟩ := P1
        rw [List.take_of_length_le (by rw [Array.length_toList]; exact Nat.le_refl _)] at ey
        have ey' : ys = odd1 z := ey
        walk_at "rd"
        intro L nL
        have s2 := same_upd (o := .lst []) nL
        have hab : ∀ y ∈ ys, Abc y := fun y hy => by
          rw [ey] at hy
          obtain ⟨c, hc, rfl⟩ := List.mem_map.mp hy
          have hc' := hz.1 c (List.mem_filter.mp hc).1
          intro d hd
          have : d = c := by simpa using hd
          omega
        refine ⟨_, _, .lst (SqL.of (s2 _ _ eD)) (strs_dp ys), .lst (SqL.of upd_same) .nil, strs_shaped hab, by decide +kernel, ?_⟩
        rw [strs_eqv]
        have e3 : decide (ys = []) = isWord (.str z) := by
          rw [ey']
          show _ = wordB z
          cases ew : wordB z with
          | true => exact decide_eq_true ((odd_nil z).mpr ew)
          | false => exact decide_eq_false fun q => by rw [(odd_nil z).mp q] at ew; cases ew
        rw [e3]
        exact kk _ (s1.trans s2)

end
end My

namespace My
open PySem PySem.Spec PyProof.Rows L2

local macro_rules | `(tactic| walk_at "rd") => `(tactic| (repeat (first
  | (refine ⟨_, rfl, ?_⟩) | (refine ⟨_, _, rfl, rfl, ?_⟩) | (refine ⟨_, _, rfl, ?_⟩) | (refine ⟨rfl, ?_⟩) | (refine ⟨⟨_, rfl⟩, ?_⟩)
  | (refine ⟨.inl (by decide), ?_⟩) | (refine ⟨.inr (by decide), ?_⟩) | (refine ⟨⟨by decide, by decide⟩, ?_⟩) | (refine ⟨⟨by decide, by decide, by decide⟩, ?_⟩) | (refine ⟨by decide, ?_⟩)
  | (refine ⟨(by show (0 : Int) < _; decide), ?_⟩)
  | (refine ⟨le_line rfl, ?_⟩) | (refine .inl ⟨_, rfl, ?_⟩) | (refine ⟨_, _, _, _, rfl, rfl, SqL.of (by assumption), rfl, ?_⟩))))

section
theorem ok_due {K : PySem.W.Frag} {mg : Str → Option Value} {A0 : Ad} {P : Program} {w : World} {base : Heap} (T : Txt K mg A0) : FnOk P w K mg base CX0 2 A0.f_due A0.d_due ["_law_given"] (spTried K) := by
  have Gis_plain := ok_is_plain (P := P) (w := w) (base := base) T
  refine T.F_due.ok sc_due (fun vs H Q E h => ?_) (fun cdv A outer s H vs Q E hr h => ?_)
  · obtain ⟨l, s, h, t, u, a, b, c, e, rfl, hl, as, ah, at_, au, kk⟩ := h
    rfl
  · obtain ⟨l, s, h, t, u, a, b, c, e, rfl, hl, as, ah, at_, au, kk⟩ := h
    have hr_is_plain : Room 1 _ := hr.mono (by decide)
    refine ⟨_, (pss_cons (ps_if (PW.pt (pw_and (pt_cmpR op_notN (pe_ix ix_list (pv 0) pe_int (fun _ _ => rfl)) pe_non (nomark _)) (pw_and1 (PW.pt (pw_or (pt_not (pt_val (pe_callB cr_isA (by rfl) T.z_isinstance (by decide +kernel) (pa_cons (pe_ix ix_list (pv 0) pe_int (fun _ _ => rfl)) (pa_cons (pe_bltn (v := .ty "int") (by rfl) T.z_int (by decide +kernel) rfl) pa_nil))))) (pw_or (pt_val (pe_callB cr_isA (by rfl) T.z_isinstance (by decide +kernel) (pa_cons (pe_ix ix_list (pv 0) pe_int (fun _ _ => rfl)) (pa_cons (pe_bltn (v := .ty "bool") (by rfl) T.z_bool (by decide +kernel) rfl) pa_nil)))) (pw_or1 (pt_cmpR op_lt (pe_ix ix_list (pv 0) pe_int (fun _ _ => rfl)) pe_int (nomark _))))))))) (pss_one (ps_ret pe_str)) pss_nil)
      (pss_cons (ps_if (pt_not (pt_val (pe_call Gis_plain hr_is_plain rfl T.g_is_plain T.k_is_plain T.b_is_plain .nil pass0 (pa_cons (pe_ix ix_list (pv 0) pe_int (fun _ _ => rfl)) pa_nil)))) (pss_one (ps_ret pe_str)) pss_nil)
      (pss_cons (ps_if (PW.pt (pw_or (pt_not (pt_val (pe_call Gis_plain hr_is_plain rfl T.g_is_plain T.k_is_plain T.b_is_plain .nil pass0 (pa_cons (pe_ix ix_list (pv 0) pe_int (fun _ _ => rfl)) pa_nil)))) (pw_or1 (PW.pt (pw_and (pt_cmpR op_isN (pe_ix ix_list (pv 0) pe_int (fun _ _ => rfl)) pe_non (nomark _)) (pw_and1 (pt_cmpR op_ne (pe_ix ix_list (pv 0) pe_int (fun _ _ => rfl)) pe_str (nomark _)))))))) (pss_one (ps_ret pe_str)) pss_nil)
      (pss_cons (ps_if (PW.pt (pw_or (pt_not (pt_val (pe_callB cr_isA (by rfl) T.z_isinstance (by decide +kernel) (pa_cons (pe_ix ix_list (pv 0) pe_int (fun _ _ => rfl)) (pa_cons (pe_bltn (v := .ty "bool") (by rfl) T.z_bool (by decide +kernel) rfl) pa_nil))))) (pw_or1 (PW.pt (pw_and (pt_cmpR op_isN (pe_ix ix_list (pv 0) pe_int (fun _ _ => rfl)) pe_non (nomark _)) (pw_and1 (pt_val (pe_ix ix_list (pv 0) pe_int (fun _ _ => rfl))))))))) (pss_one (ps_ret pe_str)) pss_nil)
      (pss_one (ps_ret pe_non)))))), ?_⟩
    have ret : ∀ (r : Option Str) (H' : Hp), fw s h t u = r → Same H H' → Q (oV r) H' := fun r H' e s1 => e ▸ kk H' s1
    have src : s ≠ .non → isNum s = false → Q (oV (some (PySem.Str.ofString "source"))) H := fun p q => ret _ _ (fw_src p q) (Same.refl _)
    refine ⟨_, rfl, _, _, 0, _, rfl, rfl, SqL.of hl, rfl, rfl, _, rfl, ?_⟩
    cases as with
    | non =>
      have c01 : ¬ (V.non ≠ .non ∧ isNum .non = false) := fun q => q.1 rfl
      refine ⟨_, rfl, _, _, 1, _, rfl, rfl, SqL.of hl, rfl, h, b, rfl, ah, fun H1 s1 => ?_⟩
      refine ⟨_, rfl, ?_⟩
      cases e1 : isWord h with
      | false => exact ret _ _ (fw_head c01 e1) s1
      | true =>
        have hl1 := s1 _ _ hl
        refine ⟨_, rfl, _, _, 2, _, rfl, rfl, SqL.of hl1, rfl, t, c, rfl, at_.same s1, fun H2 s2 => ?_⟩
        have s12 := s1.trans s2
        have hl2 := s2 _ _ hl1
        refine ⟨_, rfl, ?_⟩
        cases e2 : isWord t with
        | false => exact ret _ _ (fw_tail c01 e1 (.inl e2)) s12
        | true =>
          cases at_ with
          | str z hz =>
            refine ⟨_, rfl, _, _, 0, _, rfl, rfl, SqL.of hl2, rfl, rfl, _, rfl, ?_⟩
            refine ⟨_, rfl, _, _, 2, _, rfl, rfl, SqL.of hl2, rfl, rfl, _, rfl, ?_⟩
            by_cases ez : V.str z = V.str Str.empty
            · refine iteNS ez ?_
              have c2 : ¬ (isWord (V.str z) = false ∨ (V.str z ≠ .str Str.empty ∧ V.non = .non)) := fun q => q.elim (fun q => by rw [e2] at q; cases q) fun q => q.1 ez
              have au2 := au.same s12
              refine ⟨_, rfl, _, _, 3, _, rfl, rfl, SqL.of hl2, rfl, u, _, e, rfl, .inr (.inl rfl), au2, _, rfl, ?_⟩
              cases au with
              | bl y =>
                refine ⟨_, rfl, _, _, 0, _, rfl, rfl, SqL.of hl2, rfl, rfl, _, rfl, ?_⟩
                refine ⟨_, rfl, _, _, 3, _, rfl, rfl, SqL.of hl2, rfl, _, rfl, ?_⟩
                cases y with
                | false => exact ret _ _ (fw_none c01 e1 c2 (fun q => q.elim (fun q => q ⟨_, rfl⟩) fun q => by cases q.1)) s12
                | true => exact ret _ _ (fw_turn c01 e1 c2 (.inr ⟨rfl, rfl⟩)) s12
              | non => exact ret _ _ (fw_turn c01 e1 c2 (.inl fun q => by obtain ⟨_, q⟩ := q; cases q)) s12
              | int i => exact ret _ _ (fw_turn c01 e1 c2 (.inl fun q => by obtain ⟨_, q⟩ := q; cases q)) s12
              | str z hz => exact ret _ _ (fw_turn c01 e1 c2 (.inl fun q => by obtain ⟨_, q⟩ := q; cases q)) s12
              | lst q => exact ret _ _ (fw_turn c01 e1 c2 (.inl fun q => by obtain ⟨_, q⟩ := q; cases q)) s12
              | tup q => exact ret _ _ (fw_turn c01 e1 c2 (.inl fun q => by obtain ⟨_, q⟩ := q; cases q)) s12
            · refine iteN ez ?_
              exact ret _ _ (fw_tail c01 e1 (.inr ⟨ez, rfl⟩)) s12
          | non => cases e2
          | bl y => cases e2
          | int y => cases e2
          | lst q => cases e2
          | tup q => cases e2
    | bl y =>
      refine ⟨_, rfl, _, _, 0, _, rfl, rfl, SqL.of hl, rfl, _, _, _, rfl, .inl rfl, .bl y, _, rfl, ?_⟩
      refine ⟨_, rfl, _, _, 0, _, rfl, rfl, SqL.of hl, rfl, _, _, _, rfl, .inr (.inl rfl), .bl y, _, rfl, ?_⟩
      exact src (fun q => nomatch q) rfl
    | int i0 =>
      refine ⟨_, rfl, _, _, 0, _, rfl, rfl, SqL.of hl, rfl, _, _, _, rfl, .inl rfl, .int i0, _, rfl, ?_⟩
      refine ⟨_, rfl, _, _, 0, _, rfl, rfl, SqL.of hl, rfl, _, _, _, rfl, .inr (.inl rfl), .int i0, _, rfl, ?_⟩
      refine ⟨_, rfl, _, _, 0, _, rfl, rfl, SqL.of hl, rfl, _, _, rfl, rfl, _, rfl, ?_⟩
      refine ite2 (fun q => ?_) (fun q => ?_)
      · exact src (fun q => nomatch q) (decide_eq_false (by have := of_decide_eq_true q; omega))
      · have q' : 0 ≤ i0 := by
          have : ¬ i0 < 0 := fun z => q (decide_eq_true z)
          omega
        have c01 : ¬ (V.int i0 ≠ .non ∧ isNum (.int i0) = false) := fun z => by
          have z2 : decide (0 ≤ i0) = false := z.2
          rw [decide_eq_true q'] at z2
          cases z2
        refine ⟨_, rfl, _, _, 1, _, rfl, rfl, SqL.of hl, rfl, h, b, rfl, ah, fun H1 s1 => ?_⟩
        refine ⟨_, rfl, ?_⟩
        cases e1 : isWord h with
        | false => exact ret _ _ (fw_head c01 e1) s1
        | true =>
          have hl1 := s1 _ _ hl
          refine ⟨_, rfl, _, _, 2, _, rfl, rfl, SqL.of hl1, rfl, t, c, rfl, at_.same s1, fun H2 s2 => ?_⟩
          have s12 := s1.trans s2
          have hl2 := s2 _ _ hl1
          refine ⟨_, rfl, ?_⟩
          cases e2 : isWord t with
          | false => exact ret _ _ (fw_tail c01 e1 (.inl e2)) s12
          | true =>
            cases at_ with
            | str z hz =>
              refine ⟨_, rfl, _, _, 0, _, rfl, rfl, SqL.of hl2, rfl, rfl, _, rfl, ?_⟩
              have c2 : ¬ (isWord (V.str z) = false ∨ (V.str z ≠ .str Str.empty ∧ V.int i0 = .non)) := fun q => q.elim (fun q => by rw [e2] at q; cases q) fun q => by cases q.2
              have au2 := au.same s12
              refine ⟨_, rfl, _, _, 3, _, rfl, rfl, SqL.of hl2, rfl, u, _, e, rfl, .inr (.inl rfl), au2, _, rfl, ?_⟩
              cases au with
              | bl y =>
                refine ⟨_, rfl, _, _, 0, _, rfl, rfl, SqL.of hl2, rfl, rfl, _, rfl, ?_⟩
                exact ret _ _ (fw_none c01 e1 c2 (fun q => q.elim (fun q => q ⟨_, rfl⟩) fun q => by cases q.2)) s12
              | non => exact ret _ _ (fw_turn c01 e1 c2 (.inl fun q => by obtain ⟨_, q⟩ := q; cases q)) s12
              | int i => exact ret _ _ (fw_turn c01 e1 c2 (.inl fun q => by obtain ⟨_, q⟩ := q; cases q)) s12
              | str z hz => exact ret _ _ (fw_turn c01 e1 c2 (.inl fun q => by obtain ⟨_, q⟩ := q; cases q)) s12
              | lst q => exact ret _ _ (fw_turn c01 e1 c2 (.inl fun q => by obtain ⟨_, q⟩ := q; cases q)) s12
              | tup q => exact ret _ _ (fw_turn c01 e1 c2 (.inl fun q => by obtain ⟨_, q⟩ := q; cases q)) s12
            | non => cases e2
            | bl y => cases e2
            | int y => cases e2
            | lst q => cases e2
            | tup q => cases e2
    | str z hz =>
      refine ⟨_, rfl, _, _, 0, _, rfl, rfl, SqL.of hl, rfl, _, _, _, rfl, .inl rfl, .str z hz, _, rfl, ?_⟩
      exact src (fun q => nomatch q) rfl
    | lst q =>
      refine ⟨_, rfl, _, _, 0, _, rfl, rfl, SqL.of hl, rfl, _, _, _, rfl, .inl rfl, .lst q, _, rfl, ?_⟩
      exact src (fun q => nomatch q) rfl
    | tup q =>
      refine ⟨_, rfl, _, _, 0, _, rfl, rfl, SqL.of hl, rfl, _, _, _, rfl, .inl rfl, .tup q, _, rfl, ?_⟩
      exact src (fun q => nomatch q) rfl

end
end My

namespace My
open PySem PySem.Spec PyProof.Rows L2

local macro_rules | `(tactic| walk_at "rd") => `(tactic| (repeat (first
  | (refine ⟨_, rfl, ?_⟩) | (refine ⟨_, _, rfl, rfl, ?_⟩) | (refine ⟨_, _, rfl, ?_⟩) | (refine ⟨rfl, ?_⟩) | (refine ⟨⟨_, rfl⟩, ?_⟩)
  | (refine ⟨.inl (by decide), ?_⟩) | (refine ⟨.inr (by decide), ?_⟩) | (refine ⟨⟨by decide, by decide⟩, ?_⟩) | (refine ⟨⟨by decide, by decide, by decide⟩, ?_⟩) | (refine ⟨by decide, ?_⟩)
  | (refine ⟨(by show (0 : Int) < _; decide), ?_⟩)
  | (refine ⟨le_line rfl, ?_⟩) | (refine .inl ⟨_, rfl, ?_⟩) | (refine ⟨_, _, _, _, rfl, rfl, SqL.of (by assumption), rfl, ?_⟩))))


theorem upd_tup {H : Hp} {L : Addr} {zs us : List V} (e : H L = some (.lst zs)) {p : Addr} {ys : List V} (q : H p = some (.tup ys)) : upd H L (.lst us) p = some (.tup ys) := by
  rw [upd_ne (ne_of q e (by intro z; cases z))]
  exact q
def reprO : Option Str → Str
  | none => PySem.Str.ofString "None"
  | some x => reprText x
theorem cr_reprO {X : Cx} : CallR X (.builtin "repr") (fun xs H Q => ∃ r : Option Str, xs = [oV r] ∧ (∀ x, r = some x → (reprText x).length ≤ sizeLine) ∧ Q (.str (reprO r)) H) := by
  intro pins s σ H xs us Q I r h
  obtain ⟨r', rfl, hz, q⟩ := h
  cases r' with
  | none =>
    obtain ⟨u, rfl, ru⟩ := vals1 r
    have ru' : u = Value.none := ru
    subst ru'
    exact PySem.P.repr_of_none ⟨.str _, H, I.tok _, ⟨_, rfl⟩, q⟩
  | some x =>
    obtain ⟨u, rfl, t, rfl⟩ := vals1 r
    exact PySem.P.repr_of_str (hsz := hz x rfl) ⟨.str _, H, I.tok _, ⟨_, rfl⟩, q⟩
theorem fw_fits {s h t u : V} {x : Str} (e : fw s h t u = some x) : (reprText x).length ≤ sizeLine := by
  have : x = PySem.Str.ofString "source" ∨ x = PySem.Str.ofString "head" ∨ x = PySem.Str.ofString "tail" ∨ x = PySem.Str.ofString "is_turned" := by
    unfold fw at e
    repeat' split at e
    all_goals first | (cases e; simp; done) | (cases e)
  rcases this with rfl | rfl | rfl | rfl <;> exact le_lineN (by decide +kernel)
def ScL (K : PySem.W.Frag) (b : Addr) (H : Hp) (a : Addr) (xs : List V) : Prop := SqL K H a xs ∧ (a ≠ b ∨ ∀ H', SqL K H' a xs)
theorem ScL.mk {K : PySem.W.Frag} {b a : Addr} {H : Hp} {xs : List V} (h : SqL K H a xs) (nb : H b = none) : ScL K b H a xs := by
  refine ⟨h, ?_⟩
  rcases h with h | h
  · refine .inl ?_
    rcases h with h | ⟨o, h⟩ <;> exact ne_of_none h nb
  · exact .inr fun _ => .inr h
theorem ScL.dr {K : PySem.W.Frag} {b a : Addr} {H H' : Hp} {xs : List V} (h : ScL K b H a xs) (d : Dr b H H') : ScL K b H' a xs := by
  obtain ⟨h1, h2⟩ := h
  rcases h2 with n | n
  · exact ⟨d.sqL n h1, .inl n⟩
  · exact ⟨n H', .inr n⟩

section
theorem ok_law {K : PySem.W.Frag} {mg : Str → Option Value} {A0 : Ad} {P : Program} {w : World} {base : Heap} (T : Txt K mg A0) : FnOk P w K mg base CX0 12 A0.f_law A0.d_law ["_law_script"] (spLaw K) := by
  have Gseed := ok_seed (P := P) (w := w) (base := base) T
  have Gtried := ok_tried (P := P) (w := w) (base := base) T
  have Gfree := ok_free (P := P) (w := w) (base := base) T
  have Gone_of := ok_one_of (P := P) (w := w) (base := base) T
  have Gchoose := ok_choose (P := P) (w := w) (base := base) T
  have Ganything := ok_anything (P := P) (w := w) (base := base) T 4
  have Gdue := ok_due (P := P) (w := w) (base := base) T
  refine T.F_law.ok sc_law (fun vs H Q E h => ?_) (fun cdv A outer s H vs Q E hr h => ?_)
  · obtain ⟨a, ns, rfl, hS, hlen, kk⟩ := h
    rfl
  · obtain ⟨a, ns, rfl, hS, hlen, kk⟩ := h
    have hr_seed : Room 1 _ := hr.mono (by decide)
    have hr_tried : Room 7 _ := hr.mono (by decide)
    have hr_free : Room 4 _ := hr.mono (by decide)
    have hr_one_of : Room 2 _ := hr.mono (by decide)
    have hr_choose : Room 1 _ := hr.mono (by decide)
    have hr_anything : Room (4 + 3) _ := hr.mono (by decide)
    have hr_due : Room 2 _ := hr.mono (by decide)
    refine ⟨_, (pss_cons (ps_for PassesOwn.never rfl (pi_range1 (by rfl) T.z_range (pa_cons (pe_callB (call_max2 rfl) (by rfl) T.z_max (by decide +kernel) (pa_cons pe_int (pa_cons (pe_callB (call_min2 rfl) (by rfl) T.z_min (by decide +kernel) (pa_cons pe_int (pa_cons (pe_callB call_len_seq (by rfl) T.z_len (by decide +kernel) (pa_cons (pv 0) pa_nil)) pa_nil))) pa_nil))) pa_nil)) (pg_name (i := 1) sc_law.nd rfl (Or.inl rfl)) (pss_cons (ps_set (i := 2) sc_law.nd rfl (Or.inl rfl) (pe_call Gseed hr_seed rfl T.g_seed T.k_seed T.b_seed .nil pass0 (pa_cons (pv 0) (pa_cons (pv 1) pa_nil))))
      (pss_one (ps_for PassesOwn.never rfl (pi_range1 (by rfl) T.z_range (pa_cons pe_int pa_nil)) (pg_name (i := 3) sc_law.nd rfl (Or.inl rfl)) (pss_cons (ps_set (i := 4) sc_law.nd rfl (Or.inl rfl) (pe_callTy call_list_of (by rfl) T.z_list (by decide +kernel) (pa_cons (pe_call Gfree hr_free rfl T.g_free T.k_free T.b_free .nil pass0 (pa_cons (pv 2) (pa_cons pe_str pa_nil))) pa_nil)))
      (pss_cons (ps_if (pt_cmpR op_notN (pe_call Gtried hr_tried rfl T.g_tried T.k_tried T.b_tried .nil pass0 (pa_cons (pv 4) pa_nil)) pe_non (nomark _)) (pss_one (ps_ret pe_bl)) pss_nil)
      (pss_cons (ps_for PassesOwn.never rfl (pi_range1 (by rfl) T.z_range (pa_cons (pe_op op_add pe_int (pe_call Gchoose hr_choose rfl T.g_choose T.k_choose T.b_choose .nil pass0 (pa_cons (pv 2) (pa_cons pe_int pa_nil)))) pa_nil)) (pg_name (i := 5) sc_law.nd rfl (Or.inl rfl)) (pss_cons (ps_set (i := 6) sc_law.nd rfl (Or.inl rfl) (pe_lst (pa_cons pe_non (pa_cons pe_bl (pa_cons pe_bl (pa_cons pe_int (pa_cons (pe_un un_neg pe_int) (pa_cons pe_int (pa_cons pe_str (pa_cons pe_str (pa_cons pe_str (pa_cons pe_str (pa_cons (pe_lst (pa_cons pe_str pa_nil)) (pa_cons (pe_tup (pa_cons pe_str pa_nil)) (pa_cons pe_str (pa_cons (pe_call Ganything hr_anything rfl T.g_anything T.k_anything T.b_anything .nil pass0 (pa_cons (pv 2) (pa_cons pe_int pa_nil))) pa_nil))))))))))))))))
      (pss_one (ps_asg (pe_call Gone_of hr_one_of rfl T.g_one_of T.k_one_of T.b_one_of .nil pass0 (pa_cons (pv 2) (pa_cons (pv 6) pa_nil))) (pg_sub (pv 4) (pe_call Gchoose hr_choose rfl T.g_choose T.k_choose T.b_choose .nil pass0 (pa_cons (pv 2) (pa_cons pe_int pa_nil))) set_list)))))
      (pss_one (ps_if (pt_cmpR op_ne (pe_callB cr_reprO (by rfl) T.z_repr (by decide +kernel) (pa_cons (pe_call Gtried hr_tried rfl T.g_tried T.k_tried T.b_tried .nil pass0 (pa_cons (pv 4) pa_nil)) pa_nil)) (pe_callB cr_reprO (by rfl) T.z_repr (by decide +kernel) (pa_cons (pe_call Gdue hr_due rfl T.g_due T.k_due T.b_due .nil pass0 (pa_cons (pv 4) pa_nil)) pa_nil)) (nomark _)) (pss_one (ps_ret pe_bl)) pss_nil)))))))))
      (pss_cons (ps_if (PW.pt (pw_or (pt_cmpR op_ne (pe_call Gtried hr_tried rfl T.g_tried T.k_tried T.b_tried .nil pass0 (pa_cons (pe_lst (pa_cons pe_non (pa_cons pe_str (pa_cons pe_str (pa_cons pe_bl pa_nil))))) pa_nil)) pe_str (nomark _)) (pw_or1 (pt_cmpR op_ne (pe_call Gtried hr_tried rfl T.g_tried T.k_tried T.b_tried .nil pass0 (pa_cons (pe_lst (pa_cons pe_non (pa_cons pe_str (pa_cons pe_str (pa_cons pe_bl pa_nil))))) pa_nil)) pe_str (nomark _))))) (pss_one (ps_ret pe_bl)) pss_nil)
      (pss_one (ps_ret (pe_and (pe_cmpR op_eq (pe_call Gtried hr_tried rfl T.g_tried T.k_tried T.b_tried .nil pass0 (pa_cons (pe_lst (pa_cons pe_bl (pa_cons pe_str (pa_cons pe_int (pa_cons pe_int pa_nil))))) pa_nil)) pe_str (nomark _)) (pe_one (pe_cmpR op_eq (pe_call Gtried hr_tried rfl T.g_tried T.k_tried T.b_tried .nil pass0 (pa_cons (pe_lst (pa_cons pe_int (pa_cons pe_str (pa_cons pe_int (pa_cons pe_int pa_nil))))) pa_nil)) pe_str (nomark _)))))))), ?_⟩
    walk_at "rd"
    refine ⟨_, _, rfl, .inl hS, ?_⟩
    walk_at "rd"
    rw [List.length_map]
    generalize hJ : (if (if ((ns.length : Nat) : Int) < 4 then ((ns.length : Nat) : Int) else 4) > 2 then (if ((ns.length : Nat) : Int) < 4 then ((ns.length : Nat) : Int) else 4) else 2) = J
    have hJ0 : 0 ≤ J ∧ J ≤ 63 := by
      rw [← hJ]
      constructor <;> (repeat' split) <;> omega
    refine ⟨by omega, by omega, for_range (lo := 0) (n := J.toNat) (fun i σ H' => (∃ v1 v2 v3 v4 v5 v6, σ = [some (.ref a), v1, v2, v3, v4, v5, v6]) ∧ SqL K H' a (ns.map V.int))
      ⟨⟨_, _, _, _, _, _, rfl⟩, hS⟩ (fun i σ H1 hi P1 => ?_) (fun σ H1 P1 => ?_)⟩
    · obtain ⟨⟨v1, v2, v3, v4, v5, v6, rfl⟩, hS1⟩ := P1
      walk_at "rd"
      refine ⟨a, ns, 0 + (i : Int), rfl, hS1, hlen, by omega, by omega, fun b g r nb => ?_⟩
      have hB0 : B2 (upd H1 b (.lst [.int g, .int r])) b := ⟨g, r, upd_same⟩
      have hC0 : ScL K b (upd H1 b (.lst [.int g, .int r])) a (ns.map V.int) := ⟨(same_upd nb).seq hS1, (ScL.mk hS1 nb).2⟩
      walk_at "rd"
      refine for_range (lo := 0) (n := 10) (fun j σ H' => (∃ v3 v4 v5 v6, σ = [some (.ref a), some (.int (0 + (i : Int))), some (.ref b), v3, v4, v5, v6]) ∧ B2 H' b ∧ ScL K b H' a (ns.map V.int))
        ⟨⟨_, _, _, _, rfl⟩, hB0, hC0⟩ (fun j σ H2 hj P2 => ?_) (fun σ H2 P2 => ?_)
      · obtain ⟨⟨v3, v4, v5, v6, rfl⟩, hB, hC⟩ := P2
        walk_at "rd"
        refine ⟨hB, by decide, by decide, by decide +kernel, fun p s h t u ta tb tc td H3 D3 ep ef as ah at_ au => ?_⟩
        walk_at "rd"
        refine ⟨_, _, rfl, .inr (SqT.of ep), fun G nG => ?_⟩
        have D4 := D3.trans (.same D3.bx (same_upd (o := .lst [s, h, t, u]) nG))
        have s4 := same_upd (o := .lst [s, h, t, u]) nG
        walk_at "rd"
        refine ⟨G, s, h, t, u, ta, tb, tc, td, rfl, upd_same, as.same s4, ah.same s4, at_.same s4, au.same s4, fun H5 s5 => ?_⟩
        rw [ef]
        walk_at "rd"
        have D5 := D4.trans (.same D4.bx s5)
        have eG5 : H5 G = some (.lst [s, h, t, u]) := s5 _ _ upd_same
        have nGb : G ≠ b := D3.bx.ne nG
        refine ⟨D5.bx, by decide, by decide, fun d6 H6 D6 d60 d61 _ => ?_⟩
        walk_at "rd"
        refine ⟨by omega, by omega, for_range (lo := 0) (n := (1 + d6).toNat) (fun i2 σ H' => ∃ (v5 v6 : Option V) (s h t u : V) (ta tb tc td : Tg), σ = [some (.ref a), some (.int (0 + (i : Int))), some (.ref b), some (.int (0 + (j : Int))), some (.ref G), v5, v6] ∧
            Dr b H2 H' ∧ H' G = some (.lst [s, h, t, u]) ∧ Av H' s ta ∧ Av H' h tb ∧ Av H' t tc ∧ Av H' u td)
          ⟨_, _, s, h, t, u, ta, tb, tc, td, rfl, D5.trans D6, D6.kp _ _ nGb eG5, ((as.same s4).same s5).dr D6 D5.bx, ((ah.same s4).same s5).dr D6 D5.bx, ((at_.same s4).same s5).dr D6 D5.bx, ((au.same s4).same s5).dr D6 D5.bx⟩ (fun i2 σ H7 hi2 P7 => ?_) (fun σ H7 P7 => ?_)⟩
        · obtain ⟨v5, v6, s, h, t, u, ta, tb, tc, td, rfl, D7, eG7, as7, ah7, at7, au7⟩ := P7
          walk_at "rd"
          intro L1 n1
          have q1 := same_upd (o := .lst [.str "a"]) n1
          walk_at "rd"
          intro T1 n2
          have q2 := same_upd (o := .tup [.str "a"]) n2
          have q12 := q1.trans q2
          have D8 := D7.trans (.same D7.bx q12)
          walk_at "rd"
          refine ⟨D8.bx, by decide, fun x tx H8 D9 ax => ?_⟩
          walk_at "rd"
          intro L2 n3
          have D10 := (D7.trans (.same D7.bx q12)).trans D9
          have D79 : Dr b H7 H8 := (Dr.same D7.bx q12).trans D9
          have q3 := same_upd (o := .lst [.non, .bl true, .bl false, .int 0, .int (-1), .int 2, .str "", .str "A", .str "a b", .str "a1", .ref L1, .ref T1, .str "b", x]) n3
          have D11 := D79.trans (.same D79.bx q3)
          have a1 : Av H8 (.ref L1) .lst := (Av.lst (q2 _ _ (show _ = some (HO.lst [V.str "a"]) from upd_same (a := L1)))).dr D9 D8.bx
          have a2 : Av H8 (.ref T1) .tup := (Av.tup (show _ = some (HO.tup [V.str "a"]) from upd_same (a := T1))).dr D9 D8.bx
          walk_at "rd"
          refine ⟨b, L2, _, rfl, D11.bx, SqL.of upd_same, D79.bx.ne n3, Nat.le_of_ble_eq_true rfl, Nat.le_of_ble_eq_true rfl, fun v H9 D12 mv => ?_⟩
          have D13 := D11.trans D12
          obtain ⟨tv, av⟩ : ∃ tv, Av H9 v tv := by
            have fin : ∀ {t : Tg}, Av H8 v t → ∃ tv, Av H9 v tv := fun q => ⟨_, (q.same q3).dr D12 D11.bx⟩
            simp only [List.mem_cons, List.not_mem_nil, or_false] at mv
            rcases mv with rfl | rfl | rfl | rfl | rfl | rfl | rfl | rfl | rfl | rfl | rfl | rfl | rfl | rfl
            · exact fin .non
            · exact fin (.bl _)
            · exact fin (.bl _)
            · exact fin (.int _)
            · exact fin (.int _)
            · exact fin (.int _)
            · exact fin (.str _ (abc_lit (by decide +kernel) rfl))
            · exact fin (.str _ (abc_lit (by decide +kernel) rfl))
            · exact fin (.str _ (abc_lit (by decide +kernel) rfl))
            · exact fin (.str _ (abc_lit (by decide +kernel) rfl))
            · exact fin a1
            · exact fin a2
            · exact fin (.str _ (abc_lit (by decide +kernel) rfl))
            · exact fin ax
          walk_at "rd"
          refine ⟨D13.bx, by decide, by decide, fun d14 H10 D14 d140 d141 _ => ?_⟩
          have D15 := D13.trans D14
          have eG10 := D15.kp _ _ nGb eG7
          have as10 := as7.dr D15 D7.bx
          have ah10 := ah7.dr D15 D7.bx
          have at10 := at7.dr D15 D7.bx
          have au10 := au7.dr D15 D7.bx
          have av10 := av.dr D14 D13.bx
          have D16 : ∀ xs, Dr b H2 (upd H10 G (.lst xs)) := fun xs => by
            refine ⟨fun p o n e => ?_, ?_⟩
            · rw [upd_ne (ne_of_none e (D3.free nG))]
              exact D15.kp _ _ n (D7.kp _ _ n e)
            · obtain ⟨g, r, eb⟩ := D15.bx
              exact ⟨g, r, by rw [upd_ne nGb.symm]; exact eb⟩
          have up : ∀ (xs : List V) {y : V} {ty : Tg}, Av H10 y ty → Av (upd H10 G (.lst xs)) y ty := fun xs y ty q => by
            cases q with
            | non => exact .non
            | bl b => exact .bl b
            | int i => exact .int i
            | str z h => exact .str z h
            | @lst p ys e =>
              by_cases n : p = G
              · exact .lst (by rw [n]; exact upd_same)
              · exact .lst (by rw [upd_ne n]; exact e)
            | @tup p ys e => exact .tup (upd_tup eG10 e)
          have d14c : d14 = 0 ∨ d14 = 1 ∨ d14 = 2 ∨ d14 = 3 := by omega
          rcases d14c with rfl | rfl | rfl | rfl
          · refine ⟨G, _, 0, 0, rfl, rfl, eG10, rfl, ?_⟩
            exact ⟨_, _, _, _, _, _, _, _, _, _, rfl, D16 _, upd_same, up _ av10, up _ ah10, up _ at10, up _ au10⟩
          · refine ⟨G, _, 1, 1, rfl, rfl, eG10, rfl, ?_⟩
            exact ⟨_, _, _, _, _, _, _, _, _, _, rfl, D16 _, upd_same, up _ as10, up _ av10, up _ at10, up _ au10⟩
          · refine ⟨G, _, 2, 2, rfl, rfl, eG10, rfl, ?_⟩
            exact ⟨_, _, _, _, _, _, _, _, _, _, rfl, D16 _, upd_same, up _ as10, up _ ah10, up _ av10, up _ au10⟩
          · refine ⟨G, _, 3, 3, rfl, rfl, eG10, rfl, ?_⟩
            exact ⟨_, _, _, _, _, _, _, _, _, _, rfl, D16 _, upd_same, up _ as10, up _ ah10, up _ at10, up _ av10⟩
        · obtain ⟨v5, v6, s, h, t, u, ta, tb, tc, td, rfl, D7, eG7, as7, ah7, at7, au7⟩ := P7
          walk_at "rd"
          refine ⟨G, s, h, t, u, ta, tb, tc, td, rfl, eG7, as7, ah7, at7, au7, fun H8 s8 => ?_⟩
          have hz : ∀ x, fw s h t u = some x → (reprText x).length ≤ sizeLine := fun x q => fw_fits q
          refine ⟨_, rfl, hz, _, rfl, G, s, h, t, u, ta, tb, tc, td, rfl, s8 _ _ eG7, as7.same s8, ah7.same s8, at7.same s8, au7.same s8, fun H9 s9 => ?_⟩
          refine ⟨_, rfl, hz, rfl, _, rfl, iteNS rfl ?_⟩
          have D8 := D7.trans (.same D7.bx (s8.trans s9))
          exact ⟨⟨_, _, _, _, rfl⟩, D8.bx, hC.dr D8⟩
      · obtain ⟨⟨v3, v4, v5, v6, rfl⟩, hB, hC⟩ := P2
        exact ⟨⟨_, _, _, _, _, _, rfl⟩, hC.1⟩
    · obtain ⟨⟨v1, v2, v3, v4, v5, v6, rfl⟩, hS1⟩ := P1
      walk_at "rd"
      intro L1 n1
      have sN : ∀ (x : String), (((PySem.Str.ofString x).cps.toList.all fun c => decide (c < 128)) && Nat.ble (PySem.Str.ofString x).length 1000) = true → ∀ H, Av H (.str (PySem.Str.ofString x)) .str := fun x hx H => by
        rw [Bool.and_eq_true] at hx
        exact .str _ (abc_lit hx.1 hx.2)
      have g1 : fw .non (.str "ab") (.str "b") (.bl false) = some (PySem.Str.ofString "tail") := fw_tail (fun q => q.1 rfl) (by decide +kernel) (.inr ⟨by decide +kernel, rfl⟩)
      have g2 : fw .non (.str "ab") (.str "") (.bl true) = some (PySem.Str.ofString "is_turned") := fw_turn (fun q => q.1 rfl) (by decide +kernel) (fun q => q.elim (fun q => by revert q; decide +kernel) fun q => q.1 rfl) (.inr ⟨rfl, rfl⟩)
      have g3 : fw (.bl true) (.str "A") (.int 0) (.int 0) = some (PySem.Str.ofString "source") := fw_src (fun q => nomatch q) rfl
      have g4 : fw (.int 0) (.str "A") (.int 0) (.int 0) = some (PySem.Str.ofString "head") := fw_head (fun q => by revert q; decide) (by decide +kernel)
      refine ⟨L1, .non, .str "ab", .str "b", .bl false, _, _, _, _, rfl, upd_same, .non, sN "ab" (by decide +kernel) _, sN "b" (by decide +kernel) _, .bl _, fun H2 s2 => ?_⟩
      rw [g1]
      refine ⟨rfl, _, rfl, iteNS rfl ?_⟩
      walk_at "rd"
      intro L2 n2
      refine ⟨L2, .non, .str "ab", .str "", .bl true, _, _, _, _, rfl, upd_same, .non, sN "ab" (by decide +kernel) _, sN "" (by decide +kernel) _, .bl _, fun H3 s3 => ?_⟩
      rw [g2]
      refine ⟨rfl, _, rfl, iteNS rfl ?_⟩
      walk_at "rd"
      intro L3 n3
      refine ⟨L3, .bl true, .str "A", .int 0, .int 0, _, _, _, _, rfl, upd_same, .bl _, sN "A" (by decide +kernel) _, .int _, .int _, fun H4 s4 => ?_⟩
      rw [g3]
      refine ⟨rfl, _, rfl, ?_⟩
      walk_at "rd"
      intro L4 n4
      refine ⟨L4, .int 0, .str "A", .int 0, .int 0, _, _, _, _, rfl, upd_same, .int _, sN "A" (by decide +kernel) _, .int _, .int _, fun H5 s5 => ?_⟩
      rw [g4]
      refine ⟨rfl, ?_⟩
      exact kk _

end
end My

namespace My
open PySem PySem.Spec PyProof.Rows L2

theorem exm_self {K : PySem.W.Frag} {S : Addr} (h1 : PySem.W.subIn K (.ref S) (.type "BaseException") = some true) (h2 : PySem.W.hasDictIn K S = true)
    (h3 : PySem.W.typeIn K (.ref S) = some (.type "type")) (h4 : PySem.W.subIn K (.ref S) (.ref S) = some true) :
    PySem.W.exmOne K (.ref S) (.ref S) = some true := PySem.W.exm_ref h1 h2 h3 h4
theorem kit_own {K : PySem.W.Frag} {C D : Addr} {r : Bool} (h1 : PySem.W.subIn K (.ref C) (.ref D) = some r) (h2 : PySem.W.isClsIn K D = true)
    (h3 : PySem.W.typeIn K (.ref D) = some (.type "type")) (h4 : PySem.W.subIn K (.ref C) (.ref C) = some true) : PySem.W.kitOne K (.ref C) (.ref D) = some r := by
  unfold PySem.W.kitOne
  by_cases e : C = D
  · subst e
    rw [if_pos (by simp), ← h4]
    exact h1
  · rw [if_neg (by simp [e])]
    have h2' : (PySem.W.clsIn K D).isSome = true := h2
    show (if ((PySem.W.clsIn K D).isSome && PySem.W.typeIn K (.ref D) == some (.type "type")) = true then PySem.W.subIn K (.ref C) (.ref D) else none) = some r
    rw [h2', h3, if_pos (by simp)]
    exact h1
set_option maxHeartbeats 0 in
theorem all_mk {l : PySem.W.OpenLaw} {w : World} {K : PySem.W.Frag} {h : Heap} {mg : Str → Option Value} {fa : Addr} (X : K.In h) (G : h.Ns mainGlobals mg) (hfa : mg "law" = some (.ref fa))
    {f1 f2 f3 f4 f5 f6 f7 f8 f9 f10 f11 f12 f13 f14 f15 f16 C0 C1 C2 C3 : Addr} {od1 an1 od2 an2 od3 an3 od4 an4 od5 an5 od6 an6 od7 an7 od8 an8 od9 an9 od10 an10 od11 an11 od12 an12 od13 an13 od14 an14 od15 an15 od16 an16 : Option Addr} {sl1 sl2 sl3 sl4 sl5 sl6 sl7 sl8 sl9 sl10 sl11 sl12 sl13 sl14 sl15 sl16 : Array (Option Value)}
    {oc1 kV1 dc1 pm1 cd1 ct1 oc2 kV2 dc2 pm2 cd2 ct2 oc3 kV3 dc3 pm3 cd3 ct3 oc4 kV4 dc4 pm4 cd4 ct4 oc5 kV5 dc5 pm5 cd5 ct5 oc6 kV6 dc6 pm6 cd6 ct6 oc7 kV7 dc7 pm7 cd7 ct7 oc8 kV8 dc8 pm8 cd8 ct8 oc9 kV9 dc9 pm9 cd9 ct9 oc10 kV10 dc10 pm10 cd10 ct10 oc11 kV11 dc11 pm11 cd11 ct11 oc12 kV12 dc12 pm12 cd12 ct12 oc13 kV13 dc13 pm13 cd13 ct13 oc14 kV14 dc14 pm14 cd14 ct14 oc15 kV15 dc15 pm15 cd15 ct15 oc16 kV16 dc16 pm16 cd16 ct16 : Value}
    (gC0 : PySem.W.nsIn K mainGlobals "GrowError" = some (some (.ref C0)))
    (gC1 : PySem.W.nsIn K mainGlobals "InvalidSetting" = some (some (.ref C1)))
    {nm1 q1 : Str} {N1 : Addr} {bs1 bm1 : List Value} {sn1 : List Str} {su1 : List Value} {ab1 : Bool} {co1 : Option Bool} {dd1 : Option Addr} {ka1 kb1 ke1 kf1 kg1 : Option Value}
    (xl1 : K.lookup C1 = some (excClassObj nm1 q1 C1 N1 bs1 bm1 true sn1 su1 ab1 co1 dd1 ka1 kb1 ke1 kf1 kg1 "ValueError.__new__")) (rv1 : PySem.HandSPX.refsVE bm1 = true)
    (ai1 : PySem.W.findIn K (.ref C1) "__init__" = some (some (.ref f5))) (ti1 : PySem.W.typeIn K (.ref f5) = some (.type "function")) (n1 : PySem.W.findIn K (.ref C1) "word" = some none)
    (sa1 : PySem.W.findIn K (.ref C1) "__setattr__" = some (some (.builtin "object.__setattr__"))) (ga1 : PySem.W.findIn K (.ref C1) "__getattribute__" = some (some (.builtin "BaseException.__getattribute__"))) (gg1 : PySem.W.findIn K (.ref C1) "__getattr__" = some none)
    (kc1 : PySem.W.keepIn K (.ref C1) = true) (eb1 : PySem.W.subIn K (.ref C1) (.type "BaseException") = some true) (ty1 : PySem.W.typeIn K (.ref C1) = some (.type "type")) (hd1 : PySem.W.hasDictIn K C1 = true) (ss1 : PySem.W.subIn K (.ref C1) (.ref C1) = some true)
    (ca1 : PySem.W.findIn K (.ref C1) "__class__" = some (some (.builtin "object.__class__"))) (mo1 : PySem.W.mroIn K C1 (.type "object") = some true)
    (gC2 : PySem.W.nsIn K mainGlobals "InvalidProgram" = some (some (.ref C2)))
    (gC3 : PySem.W.nsIn K mainGlobals "Setting" = some (some (.ref C3)))
    (ai3 : PySem.W.findIn K (.ref C3) "__init__" = some (some (.ref f6))) (if3 : PySem.W.isFn K (.ref f6) = true)
    (pg3 : PySem.W.plainGet K C3 Str.empty = true) (hd3 : PySem.W.hasDictIn K C3 = true) (po3 : PySem.W.plainOver K C3 = true) (sa3 : PySem.W.findIn K (.ref C3) "__setattr__" = some (some (.builtin "object.__setattr__"))) (mk3 : PySem.W.makesIn K C3 = true) (kc3 : PySem.W.keepIn K (.ref C3) = true)
    (n3_source : PySem.W.findIn K (.ref C3) "source" = some none)
    (n3_head : PySem.W.findIn K (.ref C3) "head" = some none)
    (n3_tail : PySem.W.findIn K (.ref C3) "tail" = some none)
    (n3_is_turned : PySem.W.findIn K (.ref C3) "is_turned" = some none)
    (cn : PySem.W.specialIn K (.builtin "object.__class__") "__get__" = some (some (.builtin "getset_descriptor.__get__"))) (ct : PySem.W.takesIn K (.builtin "object.__class__") = some true)
    (is_InvalidSetting_GrowError : PySem.W.subIn K (.ref C1) (.ref C0) = some true) (ic_InvalidSetting_GrowError : PySem.W.isClsIn K C0 = true) (ik_InvalidSetting_GrowError : PySem.W.typeIn K (.ref C0) = some (.type "type"))
    (is_InvalidSetting_InvalidProgram : PySem.W.subIn K (.ref C1) (.ref C2) = some false) (ic_InvalidSetting_InvalidProgram : PySem.W.isClsIn K C2 = true) (ik_InvalidSetting_InvalidProgram : PySem.W.typeIn K (.ref C2) = some (.type "type"))
    (a1 : PySem.W.nsIn K mainGlobals "is_integer" = some (some (.ref f1)))
    (l1 : K.lookup f1 = some ⟨oc1, od1, .func (PySem.W.fnOf "is_integer" "is_integer" (defArgs s_is_integer) (defBody s_is_integer) (defScope s_is_integer) .none kV1 dc1 pm1 an1 cd1 ct1), sl1⟩)
    (c1 : PySem.W.codeIn K cd1 "is_integer" = true) (k1 : PySem.W.keepIn K (.ref f1) = true)
    (a2 : PySem.W.nsIn K mainGlobals "is_number" = some (some (.ref f2)))
    (l2 : K.lookup f2 = some ⟨oc2, od2, .func (PySem.W.fnOf "is_number" "is_number" (defArgs s_is_number) (defBody s_is_number) (defScope s_is_number) .none kV2 dc2 pm2 an2 cd2 ct2), sl2⟩)
    (c2 : PySem.W.codeIn K cd2 "is_number" = true) (k2 : PySem.W.keepIn K (.ref f2) = true)
    (a3 : PySem.W.nsIn K mainGlobals "is_word" = some (some (.ref f3)))
    (l3 : K.lookup f3 = some ⟨oc3, od3, .func (PySem.W.fnOf "is_word" "is_word" (defArgs s_is_word) (defBody s_is_word) (defScope s_is_word) .none kV3 dc3 pm3 an3 cd3 ct3), sl3⟩)
    (c3 : PySem.W.codeIn K cd3 "is_word" = true) (k3 : PySem.W.keepIn K (.ref f3) = true)
    (a4 : PySem.W.nsIn K mainGlobals "first_wrong" = some (some (.ref f4)))
    (l4 : K.lookup f4 = some ⟨oc4, od4, .func (PySem.W.fnOf "first_wrong" "first_wrong" (defArgs s_first_wrong) (defBody s_first_wrong) (defScope s_first_wrong) .none kV4 dc4 pm4 an4 cd4 ct4), sl4⟩)
    (c4 : PySem.W.codeIn K cd4 "first_wrong" = true) (k4 : PySem.W.keepIn K (.ref f4) = true)
    (l5 : K.lookup f5 = some ⟨oc5, od5, .func (PySem.W.fnOf "__init__" "InvalidSetting.__init__" (defArgs s_InvalidSetting_init) (defBody s_InvalidSetting_init) (defScope s_InvalidSetting_init) .none kV5 dc5 pm5 an5 cd5 ct5), sl5⟩)
    (c5 : PySem.W.codeIn K cd5 "InvalidSetting.__init__" = true) (k5 : PySem.W.keepIn K (.ref f5) = true)
    {T6 : Addr} {tc6 : Value} {td6 : Option Addr} {tn6 : Nat} {ts6 : Array (Option Value)} {tk6 tl6 : Tok}
    (l6 : K.lookup f6 = some ⟨oc6, od6, .func (PySem.W.fnOf "__init__" "Setting.__init__" (defArgs s_Setting_init) (defBody s_Setting_init) (defScope s_Setting_init) (.ref T6) kV6 dc6 pm6 an6 cd6 ct6), sl6⟩)
    (lt6 : K.lookup T6 = some ⟨tc6, td6, .seq #[.str Str.empty tk6, .str Str.empty tl6, .bool false] tn6, ts6⟩)
    (c6 : PySem.W.codeIn K cd6 "Setting.__init__" = true) (k6 : PySem.W.keepIn K (.ref f6) = true)
    (a7 : PySem.W.nsIn K mainGlobals "_law_seed" = some (some (.ref f7)))
    (l7 : K.lookup f7 = some ⟨oc7, od7, .func (PySem.W.fnOf "_law_seed" "_law_seed" (defArgs s_seed) (defBody s_seed) (defScope s_seed) .none kV7 dc7 pm7 an7 cd7 ct7), sl7⟩)
    (c7 : PySem.W.codeIn K cd7 "_law_seed" = true) (k7 : PySem.W.keepIn K (.ref f7) = true)
    (a8 : PySem.W.nsIn K mainGlobals "_law_choose" = some (some (.ref f8)))
    (l8 : K.lookup f8 = some ⟨oc8, od8, .func (PySem.W.fnOf "_law_choose" "_law_choose" (defArgs s_choose) (defBody s_choose) (defScope s_choose) .none kV8 dc8 pm8 an8 cd8 ct8), sl8⟩)
    (c8 : PySem.W.codeIn K cd8 "_law_choose" = true) (k8 : PySem.W.keepIn K (.ref f8) = true)
    (a9 : PySem.W.nsIn K mainGlobals "_law_one_of" = some (some (.ref f9)))
    (l9 : K.lookup f9 = some ⟨oc9, od9, .func (PySem.W.fnOf "_law_one_of" "_law_one_of" (defArgs s_one_of) (defBody s_one_of) (defScope s_one_of) .none kV9 dc9 pm9 an9 cd9 ct9), sl9⟩)
    (c9 : PySem.W.codeIn K cd9 "_law_one_of" = true) (k9 : PySem.W.keepIn K (.ref f9) = true)
    (a10 : PySem.W.nsIn K mainGlobals "_law_told" = some (some (.ref f10)))
    (l10 : K.lookup f10 = some ⟨oc10, od10, .func (PySem.W.fnOf "_law_told" "_law_told" (defArgs s_told) (defBody s_told) (defScope s_told) .none kV10 dc10 pm10 an10 cd10 ct10), sl10⟩)
    (c10 : PySem.W.codeIn K cd10 "_law_told" = true) (k10 : PySem.W.keepIn K (.ref f10) = true)
    (a11 : PySem.W.nsIn K mainGlobals "_law_anything" = some (some (.ref f11)))
    (l11 : K.lookup f11 = some ⟨oc11, od11, .func (PySem.W.fnOf "_law_anything" "_law_anything" (defArgs s_anything) (defBody s_anything) (defScope s_anything) .none kV11 dc11 pm11 an11 cd11 ct11), sl11⟩)
    (c11 : PySem.W.codeIn K cd11 "_law_anything" = true) (k11 : PySem.W.keepIn K (.ref f11) = true)
    (a12 : PySem.W.nsIn K mainGlobals "_law_free" = some (some (.ref f12)))
    (l12 : K.lookup f12 = some ⟨oc12, od12, .func (PySem.W.fnOf "_law_free" "_law_free" (defArgs s_free) (defBody s_free) (defScope s_free) .none kV12 dc12 pm12 an12 cd12 ct12), sl12⟩)
    (c12 : PySem.W.codeIn K cd12 "_law_free" = true) (k12 : PySem.W.keepIn K (.ref f12) = true)
    (a13 : PySem.W.nsIn K mainGlobals "_law_tried" = some (some (.ref f13)))
    (l13 : K.lookup f13 = some ⟨oc13, od13, .func (PySem.W.fnOf "_law_tried" "_law_tried" (defArgs s_tried) (defBody s_tried) (defScope s_tried) .none kV13 dc13 pm13 an13 cd13 ct13), sl13⟩)
    (c13 : PySem.W.codeIn K cd13 "_law_tried" = true) (k13 : PySem.W.keepIn K (.ref f13) = true)
    (a14 : PySem.W.nsIn K mainGlobals "_law_is_plain" = some (some (.ref f14)))
    (l14 : K.lookup f14 = some ⟨oc14, od14, .func (PySem.W.fnOf "_law_is_plain" "_law_is_plain" (defArgs s_is_plain) (defBody s_is_plain) (defScope s_is_plain) .none kV14 dc14 pm14 an14 cd14 ct14), sl14⟩)
    (c14 : PySem.W.codeIn K cd14 "_law_is_plain" = true) (k14 : PySem.W.keepIn K (.ref f14) = true)
    (a15 : PySem.W.nsIn K mainGlobals "_law_due" = some (some (.ref f15)))
    (l15 : K.lookup f15 = some ⟨oc15, od15, .func (PySem.W.fnOf "_law_due" "_law_due" (defArgs s_due) (defBody s_due) (defScope s_due) .none kV15 dc15 pm15 an15 cd15 ct15), sl15⟩)
    (c15 : PySem.W.codeIn K cd15 "_law_due" = true) (k15 : PySem.W.keepIn K (.ref f15) = true)
    (a16 : PySem.W.nsIn K mainGlobals "law" = some (some (.ref f16)))
    (l16 : K.lookup f16 = some ⟨oc16, od16, .func (PySem.W.fnOf "law" "law" (defArgs s_law) (defBody s_law) (defScope s_law) .none kV16 dc16 pm16 an16 cd16 ct16), sl16⟩)
    (c16 : PySem.W.codeIn K cd16 "law" = true) (k16 : PySem.W.keepIn K (.ref f16) = true)
    (z_abs : PySem.W.nsIn K mainGlobals "abs" = some none)
    (z_all : PySem.W.nsIn K mainGlobals "all" = some none)
    (z_bool : PySem.W.nsIn K mainGlobals "bool" = some none)
    (z_int : PySem.W.nsIn K mainGlobals "int" = some none)
    (z_isinstance : PySem.W.nsIn K mainGlobals "isinstance" = some none)
    (z_len : PySem.W.nsIn K mainGlobals "len" = some none)
    (z_list : PySem.W.nsIn K mainGlobals "list" = some none)
    (z_max : PySem.W.nsIn K mainGlobals "max" = some none)
    (z_min : PySem.W.nsIn K mainGlobals "min" = some none)
    (z_range : PySem.W.nsIn K mainGlobals "range" = some none)
    (z_repr : PySem.W.nsIn K mainGlobals "repr" = some none)
    (z_str : PySem.W.nsIn K mainGlobals "str" = some none)
    (z_tuple : PySem.W.nsIn K mainGlobals "tuple" = some none)
    : ∃ fd : FuncData, (∀ (s : Shared) (v : Value), BindsTo s fd ⟨[v], []⟩ [("_law_script", v)]) ∧ ∀ base : Heap, K.In base → base.Ns mainGlobals mg → FnOk l.prog w K mg base CX0 12 fa fd ["_law_script"] (spLaw K) := by
  have e := hfa.symm.trans (PySem.W.mg_of X G a16)
  cases e
  have F1 : Fun K "is_integer" "is_integer" s_is_integer f1 (PySem.W.fnOf "is_integer" "is_integer" (defArgs s_is_integer) (defBody s_is_integer) (defScope s_is_integer) .none kV1 dc1 pm1 an1 cd1 ct1) := fun_mk l1 c1 k1
  have b1 := F1.binds (ps := ["value"]) fun _ _ _ _ _ _ us hl => match us, hl with | [_], _ => rfl
  have F2 : Fun K "is_number" "is_number" s_is_number f2 (PySem.W.fnOf "is_number" "is_number" (defArgs s_is_number) (defBody s_is_number) (defScope s_is_number) .none kV2 dc2 pm2 an2 cd2 ct2) := fun_mk l2 c2 k2
  have b2 := F2.binds (ps := ["value"]) fun _ _ _ _ _ _ us hl => match us, hl with | [_], _ => rfl
  have F3 : Fun K "is_word" "is_word" s_is_word f3 (PySem.W.fnOf "is_word" "is_word" (defArgs s_is_word) (defBody s_is_word) (defScope s_is_word) .none kV3 dc3 pm3 an3 cd3 ct3) := fun_mk l3 c3 k3
  have b3 := F3.binds (ps := ["value"]) fun _ _ _ _ _ _ us hl => match us, hl with | [_], _ => rfl
  have F4 : Fun K "first_wrong" "first_wrong" s_first_wrong f4 (PySem.W.fnOf "first_wrong" "first_wrong" (defArgs s_first_wrong) (defBody s_first_wrong) (defScope s_first_wrong) .none kV4 dc4 pm4 an4 cd4 ct4) := fun_mk l4 c4 k4
  have b4 := F4.binds (ps := ["source", "head", "tail", "is_turned"]) fun _ _ _ _ _ _ us hl => match us, hl with | [_, _, _, _], _ => rfl
  have F5 : Fun K "__init__" "InvalidSetting.__init__" s_InvalidSetting_init f5 (PySem.W.fnOf "__init__" "InvalidSetting.__init__" (defArgs s_InvalidSetting_init) (defBody s_InvalidSetting_init) (defScope s_InvalidSetting_init) .none kV5 dc5 pm5 an5 cd5 ct5) := fun_mk l5 c5 k5
  have b5 := F5.binds (ps := ["self", "word"]) fun _ _ _ _ _ _ us hl => match us, hl with | [_, _], _ => rfl
  have F6 : FunD K "__init__" "Setting.__init__" (defArgs s_Setting_init) (defBody s_Setting_init) (defScope s_Setting_init) [.str Str.empty, .str Str.empty, .bl false] [] f6 (PySem.W.fnOf "__init__" "Setting.__init__" (defArgs s_Setting_init) (defBody s_Setting_init) (defScope s_Setting_init) (.ref T6) kV6 dc6 pm6 an6 cd6 ct6) :=
    ⟨⟨_, _, _, _, _, _, _, _, _, _, rfl, l6, c6, Or.inr ⟨by decide, T6, _, [.str Str.empty tk6, .str Str.empty tl6, .bool false], tn6, rfl, lt6, rfl, .cons ⟨_, rfl⟩ (.cons ⟨_, rfl⟩ (.cons rfl .nil))⟩, Or.inl rfl⟩, k6⟩
  have b6 : Binds K (PySem.W.fnOf "__init__" "Setting.__init__" (defArgs s_Setting_init) (defBody s_Setting_init) (defScope s_Setting_init) (.ref T6) kV6 dc6 pm6 an6 cd6 ct6) ["self", "source", "head", "tail", "is_turned"] [] := by
    obtain ⟨ds, r, b⟩ := F6.binds1 (ps := ["self", "source", "head", "tail", "is_turned"]) 5 3 (by decide) (by decide) fun _ _ _ _ _ _ _ us its hl hi => match us, hl, its, hi with | [_, _, _, _, _], _, [_, _, _], _ => ⟨_, rfl, rfl⟩
    cases r
    exact b
  have F7 : Fun K "_law_seed" "_law_seed" s_seed f7 (PySem.W.fnOf "_law_seed" "_law_seed" (defArgs s_seed) (defBody s_seed) (defScope s_seed) .none kV7 dc7 pm7 an7 cd7 ct7) := fun_mk l7 c7 k7
  have b7 := F7.binds (ps := ["_law_script", "_law_k"]) fun _ _ _ _ _ _ us hl => match us, hl with | [_, _], _ => rfl
  have F8 : Fun K "_law_choose" "_law_choose" s_choose f8 (PySem.W.fnOf "_law_choose" "_law_choose" (defArgs s_choose) (defBody s_choose) (defScope s_choose) .none kV8 dc8 pm8 an8 cd8 ct8) := fun_mk l8 c8 k8
  have b8 := F8.binds (ps := ["_law_box", "_law_many"]) fun _ _ _ _ _ _ us hl => match us, hl with | [_, _], _ => rfl
  have F9 : Fun K "_law_one_of" "_law_one_of" s_one_of f9 (PySem.W.fnOf "_law_one_of" "_law_one_of" (defArgs s_one_of) (defBody s_one_of) (defScope s_one_of) .none kV9 dc9 pm9 an9 cd9 ct9) := fun_mk l9 c9 k9
  have b9 := F9.binds (ps := ["_law_box", "_law_some"]) fun _ _ _ _ _ _ us hl => match us, hl with | [_, _], _ => rfl
  have F10 : Fun K "_law_told" "_law_told" s_told f10 (PySem.W.fnOf "_law_told" "_law_told" (defArgs s_told) (defBody s_told) (defScope s_told) .none kV10 dc10 pm10 an10 cd10 ct10) := fun_mk l10 c10 k10
  have b10 := F10.binds (ps := ["_law_box", "_law_marks", "_law_most"]) fun _ _ _ _ _ _ us hl => match us, hl with | [_, _, _], _ => rfl
  have F11 : Fun K "_law_anything" "_law_anything" s_anything f11 (PySem.W.fnOf "_law_anything" "_law_anything" (defArgs s_anything) (defBody s_anything) (defScope s_anything) .none kV11 dc11 pm11 an11 cd11 ct11) := fun_mk l11 c11 k11
  have b11 := F11.binds (ps := ["_law_box", "_law_deep"]) fun _ _ _ _ _ _ us hl => match us, hl with | [_, _], _ => rfl
  have F12 : Fun K "_law_free" "_law_free" s_free f12 (PySem.W.fnOf "_law_free" "_law_free" (defArgs s_free) (defBody s_free) (defScope s_free) .none kV12 dc12 pm12 an12 cd12 ct12) := fun_mk l12 c12 k12
  have b12 := F12.binds (ps := ["_law_box", "_law_marks"]) fun _ _ _ _ _ _ us hl => match us, hl with | [_, _], _ => rfl
  have F13 : Fun K "_law_tried" "_law_tried" s_tried f13 (PySem.W.fnOf "_law_tried" "_law_tried" (defArgs s_tried) (defBody s_tried) (defScope s_tried) .none kV13 dc13 pm13 an13 cd13 ct13) := fun_mk l13 c13 k13
  have b13 := F13.binds (ps := ["_law_given"]) fun _ _ _ _ _ _ us hl => match us, hl with | [_], _ => rfl
  have F14 : Fun K "_law_is_plain" "_law_is_plain" s_is_plain f14 (PySem.W.fnOf "_law_is_plain" "_law_is_plain" (defArgs s_is_plain) (defBody s_is_plain) (defScope s_is_plain) .none kV14 dc14 pm14 an14 cd14 ct14) := fun_mk l14 c14 k14
  have b14 := F14.binds (ps := ["_law_value"]) fun _ _ _ _ _ _ us hl => match us, hl with | [_], _ => rfl
  have F15 : Fun K "_law_due" "_law_due" s_due f15 (PySem.W.fnOf "_law_due" "_law_due" (defArgs s_due) (defBody s_due) (defScope s_due) .none kV15 dc15 pm15 an15 cd15 ct15) := fun_mk l15 c15 k15
  have b15 := F15.binds (ps := ["_law_given"]) fun _ _ _ _ _ _ us hl => match us, hl with | [_], _ => rfl
  have F16 : Fun K "law" "law" s_law fa (PySem.W.fnOf "law" "law" (defArgs s_law) (defBody s_law) (defScope s_law) .none kV16 dc16 pm16 an16 cd16 ct16) := fun_mk l16 c16 k16
  have b16 := F16.binds (ps := ["_law_script"]) fun _ _ _ _ _ _ us hl => match us, hl with | [_], _ => rfl
  have T : Txt K mg ⟨f1, f2, f3, f4, f5, f6, f7, f8, f9, f10, f11, f12, f13, f14, f15, fa,
    (PySem.W.fnOf "is_integer" "is_integer" (defArgs s_is_integer) (defBody s_is_integer) (defScope s_is_integer) .none kV1 dc1 pm1 an1 cd1 ct1),
    (PySem.W.fnOf "is_number" "is_number" (defArgs s_is_number) (defBody s_is_number) (defScope s_is_number) .none kV2 dc2 pm2 an2 cd2 ct2),
    (PySem.W.fnOf "is_word" "is_word" (defArgs s_is_word) (defBody s_is_word) (defScope s_is_word) .none kV3 dc3 pm3 an3 cd3 ct3),
    (PySem.W.fnOf "first_wrong" "first_wrong" (defArgs s_first_wrong) (defBody s_first_wrong) (defScope s_first_wrong) .none kV4 dc4 pm4 an4 cd4 ct4),
    (PySem.W.fnOf "__init__" "InvalidSetting.__init__" (defArgs s_InvalidSetting_init) (defBody s_InvalidSetting_init) (defScope s_InvalidSetting_init) .none kV5 dc5 pm5 an5 cd5 ct5),
    (PySem.W.fnOf "__init__" "Setting.__init__" (defArgs s_Setting_init) (defBody s_Setting_init) (defScope s_Setting_init) (.ref T6) kV6 dc6 pm6 an6 cd6 ct6),
    (PySem.W.fnOf "_law_seed" "_law_seed" (defArgs s_seed) (defBody s_seed) (defScope s_seed) .none kV7 dc7 pm7 an7 cd7 ct7),
    (PySem.W.fnOf "_law_choose" "_law_choose" (defArgs s_choose) (defBody s_choose) (defScope s_choose) .none kV8 dc8 pm8 an8 cd8 ct8),
    (PySem.W.fnOf "_law_one_of" "_law_one_of" (defArgs s_one_of) (defBody s_one_of) (defScope s_one_of) .none kV9 dc9 pm9 an9 cd9 ct9),
    (PySem.W.fnOf "_law_told" "_law_told" (defArgs s_told) (defBody s_told) (defScope s_told) .none kV10 dc10 pm10 an10 cd10 ct10),
    (PySem.W.fnOf "_law_anything" "_law_anything" (defArgs s_anything) (defBody s_anything) (defScope s_anything) .none kV11 dc11 pm11 an11 cd11 ct11),
    (PySem.W.fnOf "_law_free" "_law_free" (defArgs s_free) (defBody s_free) (defScope s_free) .none kV12 dc12 pm12 an12 cd12 ct12),
    (PySem.W.fnOf "_law_tried" "_law_tried" (defArgs s_tried) (defBody s_tried) (defScope s_tried) .none kV13 dc13 pm13 an13 cd13 ct13),
    (PySem.W.fnOf "_law_is_plain" "_law_is_plain" (defArgs s_is_plain) (defBody s_is_plain) (defScope s_is_plain) .none kV14 dc14 pm14 an14 cd14 ct14),
    (PySem.W.fnOf "_law_due" "_law_due" (defArgs s_due) (defBody s_due) (defScope s_due) .none kV15 dc15 pm15 an15 cd15 ct15),
    (PySem.W.fnOf "law" "law" (defArgs s_law) (defBody s_law) (defScope s_law) .none kV16 dc16 pm16 an16 cd16 ct16), C0, C1, C2, C3⟩ :=
    ⟨PySem.W.mg_of X G a1,
    k1,
    F1,
    b1,
    PySem.W.mg_of X G a2,
    k2,
    F2,
    b2,
    PySem.W.mg_of X G a3,
    k3,
    F3,
    b3,
    PySem.W.mg_of X G a4,
    k4,
    F4,
    b4,
    k5,
    F5,
    b5,
    F6,
    b6,
    PySem.W.mg_of X G a7,
    k7,
    F7,
    b7,
    PySem.W.mg_of X G a8,
    k8,
    F8,
    b8,
    PySem.W.mg_of X G a9,
    k9,
    F9,
    b9,
    PySem.W.mg_of X G a10,
    k10,
    F10,
    b10,
    PySem.W.mg_of X G a11,
    k11,
    F11,
    b11,
    PySem.W.mg_of X G a12,
    k12,
    F12,
    b12,
    PySem.W.mg_of X G a13,
    k13,
    F13,
    b13,
    PySem.W.mg_of X G a14,
    k14,
    F14,
    b14,
    PySem.W.mg_of X G a15,
    k15,
    F15,
    b15,
    PySem.W.mg_of X G a16,
    k16,
    F16,
    b16,
    PySem.W.mg_of X G gC0,
    PySem.W.mg_of X G gC1,
    ⟨⟨_, _, _, _, _, _, _, _, _, _, _, _, _, _, _, xl1, rv1⟩, sa1, eb1, ty1, kc1⟩,
    ai1,
    ti1,
    n1,
    ⟨ga1, gg1, eb1, hd1⟩,
    ⟨ga1, gg1, eb1, hd1, ca1, cn, ct, mo1⟩,
    exm_self eb1 hd1 ty1 ss1,
    PySem.W.mg_of X G gC2,
    PySem.W.mg_of X G gC3,
    ⟨pg3, hd3, po3, sa3⟩,
    ⟨mk3, ai3, if3, kc3⟩,
    n3_source,
    n3_head,
    n3_tail,
    n3_is_turned,
    kit_own is_InvalidSetting_GrowError ic_InvalidSetting_GrowError ik_InvalidSetting_GrowError ss1,
    kit_own is_InvalidSetting_InvalidProgram ic_InvalidSetting_InvalidProgram ik_InvalidSetting_InvalidProgram ss1,
    PySem.W.mg_none_of X G z_abs,
    PySem.W.mg_none_of X G z_all,
    PySem.W.mg_none_of X G z_bool,
    PySem.W.mg_none_of X G z_int,
    PySem.W.mg_none_of X G z_isinstance,
    PySem.W.mg_none_of X G z_len,
    PySem.W.mg_none_of X G z_list,
    PySem.W.mg_none_of X G z_max,
    PySem.W.mg_none_of X G z_min,
    PySem.W.mg_none_of X G z_range,
    PySem.W.mg_none_of X G z_repr,
    PySem.W.mg_none_of X G z_str,
    PySem.W.mg_none_of X G z_tuple⟩
  exact ⟨(PySem.W.fnOf "law" "law" (defArgs s_law) (defBody s_law) (defScope s_law) .none kV16 dc16 pm16 an16 cd16 ct16), fun s v => .of_eq rfl, fun base _ _ => ok_law T⟩
end My
open PySem PySem.W PyProof.Rows
set_option maxHeartbeats 0 in
theorem PySem.Challenge.cw_growntexts_k03_settings_refused_holds : PySem.Challenge.rw_growntexts_k03_settings_refused.Holds := by
  w_on; o_law; k_head; (case hw => w_witness2)
  k_fill
  refine L2.walk_of (l := PySem.Challenge.rw_growntexts_k03_settings_refused) (n := 63) (k := 12) (x := "_law_script") (CX := fun _ => L2.CX0) (sp := fun w => My.spLaw _) rfl (by decide) rfl ⟨rfl, by decide, by decide⟩
    (fun w h Y => PySem.W.kIn_of Y) ?F (fun _ _ a ns hl _ hS => ⟨a, ns, rfl, hS, hl, fun _ => rfl⟩) (fun _ _ _ _ _ h => h)
  case F =>
    intro w mg fa h KX G hmg
    refine' My.all_mk KX G hmg ?gC0 ?gC1 ?xl1 ?rv1 ?ai1 ?ti1 ?n1 ?sa1 ?ga1 ?gg1 ?kc1 ?eb1 ?ty1 ?hd1 ?ss1 ?ca1 ?mo1 ?gC2 ?gC3 ?ai3 ?if3 ?pg3 ?hd3 ?po3 ?sa3 ?mk3 ?kc3 ?n3_source ?n3_head ?n3_tail ?n3_is_turned ?cn ?ct ?is_InvalidSetting_GrowError ?ic_InvalidSetting_GrowError ?ik_InvalidSetting_GrowError ?is_InvalidSetting_InvalidProgram ?ic_InvalidSetting_InvalidProgram ?ik_InvalidSetting_InvalidProgram ?a1 ?l1 ?c1 ?k1 ?a2 ?l2 ?c2 ?k2 ?a3 ?l3 ?c3 ?k3 ?a4 ?l4 ?c4 ?k4 ?l5 ?c5 ?k5 ?l6 ?lt6 ?c6 ?k6 ?a7 ?l7 ?c7 ?k7 ?a8 ?l8 ?c8 ?k8 ?a9 ?l9 ?c9 ?k9 ?a10 ?l10 ?c10 ?k10 ?a11 ?l11 ?c11 ?k11 ?a12 ?l12 ?c12 ?k12 ?a13 ?l13 ?c13 ?k13 ?a14 ?l14 ?c14 ?k14 ?a15 ?l15 ?c15 ?k15 ?a16 ?l16 ?c16 ?k16 ?z_abs ?z_all ?z_bool ?z_int ?z_isinstance ?z_len ?z_list ?z_max ?z_min ?z_range ?z_repr ?z_str ?z_tuple
    (case gC0 => k_is)
    (case gC1 => k_is)
    (case xl1 => k_is)
    (case rv1 => decide +kernel)
    (case ai1 => k_is)
    (case ti1 => k_is)
    (case n1 => k_is)
    (case sa1 => k_is)
    (case ga1 => k_is)
    (case gg1 => k_is)
    (case kc1 => k_is)
    (case eb1 => k_is)
    (case ty1 => k_is)
    (case hd1 => k_is)
    (case ss1 => k_is)
    (case ca1 => k_is)
    (case mo1 => k_is)
    (case gC2 => k_is)
    (case gC3 => k_is)
    (case ai3 => k_is)
    (case if3 => k_is)
    (case pg3 => k_is)
    (case hd3 => k_is)
    (case po3 => k_is)
    (case sa3 => k_is)
    (case mk3 => k_is)
    (case kc3 => k_is)
    (case n3_source => k_is)
    (case n3_head => k_is)
    (case n3_tail => k_is)
    (case n3_is_turned => k_is)
    (case cn => k_is)
    (case ct => k_is)
    (case is_InvalidSetting_GrowError => k_is)
    (case ic_InvalidSetting_GrowError => k_is)
    (case ik_InvalidSetting_GrowError => k_is)
    (case is_InvalidSetting_InvalidProgram => k_is)
    (case ic_InvalidSetting_InvalidProgram => k_is)
    (case ik_InvalidSetting_InvalidProgram => k_is)
    (case a1 => k_is)
    (case l1 => k_is)
    (case c1 => k_is)
    (case k1 => k_is)
    (case a2 => k_is)
    (case l2 => k_is)
    (case c2 => k_is)
    (case k2 => k_is)
    (case a3 => k_is)
    (case l3 => k_is)
    (case c3 => k_is)
    (case k3 => k_is)
    (case a4 => k_is)
    (case l4 => k_is)
    (case c4 => k_is)
    (case k4 => k_is)
    (case l5 => k_is)
    (case c5 => k_is)
    (case k5 => k_is)
    (case l6 => k_is)
    (case lt6 => k_is)
    (case c6 => k_is)
    (case k6 => k_is)
    (case a7 => k_is)
    (case l7 => k_is)
    (case c7 => k_is)
    (case k7 => k_is)
    (case a8 => k_is)
    (case l8 => k_is)
    (case c8 => k_is)
    (case k8 => k_is)
    (case a9 => k_is)
    (case l9 => k_is)
    (case c9 => k_is)
    (case k9 => k_is)
    (case a10 => k_is)
    (case l10 => k_is)
    (case c10 => k_is)
    (case k10 => k_is)
    (case a11 => k_is)
    (case l11 => k_is)
    (case c11 => k_is)
    (case k11 => k_is)
    (case a12 => k_is)
    (case l12 => k_is)
    (case c12 => k_is)
    (case k12 => k_is)
    (case a13 => k_is)
    (case l13 => k_is)
    (case c13 => k_is)
    (case k13 => k_is)
    (case a14 => k_is)
    (case l14 => k_is)
    (case c14 => k_is)
    (case k14 => k_is)
    (case a15 => k_is)
    (case l15 => k_is)
    (case c15 => k_is)
    (case k15 => k_is)
    (case a16 => k_is)
    (case l16 => k_is)
    (case c16 => k_is)
    (case k16 => k_is)
    (case z_abs => k_is)
    (case z_all => k_is)
    (case z_bool => k_is)
    (case z_int => k_is)
    (case z_isinstance => k_is)
    (case z_len => k_is)
    (case z_list => k_is)
    (case z_max => k_is)
    (case z_min => k_is)
    (case z_range => k_is)
    (case z_repr => k_is)
    (case z_str => k_is)
    (case z_tuple => k_is)
