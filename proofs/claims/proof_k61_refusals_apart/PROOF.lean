import PyProof.Rows.All
import KE.KNestM
import KE.KLam
import KE.KItem
import KE.KxBytes
import KE.KIsAll
import KE.KDictOf
import Wide.FinOn
import Wide.All
import Lean
import PyProof.EqAt
import PyProof.EqKinds
import PyProof.TupleCall
import PyProof.StationsW
import PyProof.RulesAs
import PyProof.Rows.MatchSeqLen
import PyProof.CodeObj
import PyProof.ExcClass2
import PyProof.ExcBaseAll.ValueError
import PyProof.ExcAttrAll.ValueError
import PyProof.Rows.SeqMore
import PyProof.ExcInit
import OpenK.KMake
import PyProof.Rows.SortWalk
import PyProof.Rows.SortStr
import PyProof.Rows.NestShow
import PyProof.EnumStmt
import PyProof.EnumFor
import PyProof.EnumMake
import PyProof.Rows.SetFrom
import PyProof.Rows.SetObj
import PyProof.SetRoads
import PyProof.SetNew
import PyProof.Rows.MinMaxN
import PyProof.WalkInts
import KE.KDictLaws
import PyProof.DictValues
import PyProof.StrOps2
import PyProof.Rows.StrNews
import PyProof.CollectIter
import PyProof.ZipIter
import KE.KPar
import PySem.Challenge.RW_joinedfolk_k61_refusals_apart
set_option Elab.async false
set_option linter.all false
set_option maxRecDepth 100000
set_option maxHeartbeats 4000000
namespace PySem.W
open PySem
def topRunT (tb:String->Option Builtin) (p:Program) (w:World) (n₀:Nat) (ann:Option Value):Nat->SharedT->Thread->Option SharedT
 | 0,_,_=>none
 | n + 1,s,t=>match through t with
  | true=>some s
  | false=>match stepOk n₀ ann t with
   | false=>none
   | true=>match stepT (denote tb) p w s t with
    | some (s',t')=>topRunT tb p w n₀ ann n s' t'
    | none=>none
theorem topRun_of {tb:String->Option Builtin} {p:Program} {w:World} {n₀:Nat} {ann:Option Value}:∀ {n:Nat} {s s':SharedT} {t:Thread},topRunT tb p w n₀ ann n s t=some s'->topRun tb p w n₀ ann n s.abs t=some s'.abs
 | 0,_,_,_,h=>by cases h
 | n + 1,s,s',t,h=>by
  unfold topRunT at h
  unfold topRun
  cases he:through t with
  | true=>rw [he] at h;cases h;rfl
  | false =>
   rw [he] at h
   cases hk:stepOk n₀ ann t with
   | false=>rw [hk] at h;cases h
   | true =>
    rw [hk] at h
    cases hs:stepT (denote tb) p w s t with
    | none=>rw [hs] at h;cases h
    | some r=>obtain ⟨s₂,t₂⟩:=r;rw [hs] at h;dsimp only at h ⊢;rw [stepT_spec hs];exact topRun_of h
def insAll:List Obj->Nat->BT->BT
 | [],_,t=>t
 | o :: r,n,t=>insAll r (n + 1) (t.ins n o)
noncomputable def bt0 (P:Params):BT:=insAll (boot_heap P).objs.toList 0 .nil
theorem bt0_is (P:Params):absHeap (bt0 P) 11 {}=boot_heap P:=by kernel_rfl
def getT (s:SharedT) (a:Addr):Option Obj:=match Nat.blt a s.n with
 | true=>match s.tree.get a with
  | some o=>alive o
  | none=>none
 | false=>none
theorem getT_is {s:SharedT} {a:Addr} {o:Obj} (h:getT s a=some o):s.abs.heap.get? a=some o:=by
 unfold getT at h
 cases e:Nat.blt a s.n with
 | false=>rw [e] at h;cases h
 | true =>
  rw [e] at h
  cases g:s.tree.get a with
  | none=>rw [g] at h;cases h
  | some o' =>
   rw [g] at h
   exact (abs_get (Nat.le_of_ble_eq_true e) g).trans h
theorem getT_map {s:SharedT} {α:Type} {f:α->Obj}:∀ {as:List Addr} {K:List α},as.map (getT s)=K.map (fun p=>some (f p))->as.map s.abs.heap.get?=K.map fun p=>some (f p)
 | [],[],_=>rfl
 | a :: as,p :: K,h=>by
  rw [List.map_cons,List.map_cons] at h ⊢
  injection h with h1 h2
  rw [getT_is h1,getT_map h2]
 | [],_ :: _,h=>by cases h
 | _ :: _,[],h=>by cases h
noncomputable abbrev looksT (p q:Program) (loose:List Str) (Xt:Shared->Bool) (g0:Bool) (w:World) (s:SharedT):=(staticsOk (importedModules p.main.body) (boot_heap w.params) s.abs.heap && namesBound p s.abs.heap && gensDone s.abs && laidKept (boot_heap w.params) s.abs.heap,openSeen q loose (importedModules p.main.body) Xt g0 s.abs)
theorem left_tree {p q:Program} {loose:List Str} {Xt:Shared->Bool} {K:Params->Frag} {as ts:List Addr} {ea:∀ P,as=(K P).map (·.1)} {N:Nat} {g0:Bool}
  (e:opening p=plainProg p.main.scope.names) (hN:Nat.ble 600 N=true) (f:∀ s,fenceModules? p s=some s)
  (h:∀ w:World,(fun os=>(topRunT treeTable p w 11 (some (.ref 6)) N ⟨bt0 w.params,11,{},#[],boot_drawn,boot_toks,os⟩ (topStub p)).map
   fun s=>looksT p q loose Xt g0 w s)=fun _=>some (true,openGood q loose))
  (h':∀ w:World,(fun os=>(topRunT treeTable p w 11 (some (.ref 6)) N ⟨bt0 w.params,11,{},#[],boot_drawn,boot_toks,os⟩ (topStub p)).map
   fun s=>(as.map (getT s),ts.map (getT s)))=fun _=>some ((K w.params).map (fun p=>some p.2),ts.map fun _=>some (tabObj #[]))) :
  LeftO p q loose Xt (Hook.obs (kmHook K as ea ts)) (Hook.val (kmHook K as ea ts)) N g0:=fun w=>by
 obtain ⟨⟨hp,gs,d,k,os⟩,e1,e2⟩:=Option.map_eq_some_iff.mp (boot_open e hN f w)
 obtain ⟨rfl,rfl,rfl,rfl⟩:hp=boot_heap w.params/\gs=Array.mk []/\d=boot_drawn/\k=boot_toks:=by simpa using e2
 obtain ⟨s,r1,r2⟩:=Option.map_eq_some_iff.mp (congrFun (h w) os)
 obtain ⟨s',r1',r2'⟩:=Option.map_eq_some_iff.mp (congrFun (h' w) os)
 obtain rfl:s=s':=Option.some.inj (r1.symm.trans r1')
 obtain ⟨l1,l2⟩:_/\_:=by simpa only [Prod.mk.injEq] using r2
 obtain ⟨l3,l4⟩:_/\_:=by simpa only [Prod.mk.injEq] using r2'
 have r:=topRun_of r1
 have hs:SharedT.abs ⟨bt0 w.params,11,{},#[],boot_drawn,boot_toks,os⟩=⟨boot_heap w.params,#[],boot_drawn,boot_toks,os⟩:=by
  unfold SharedT.abs
  dsimp only
  rw [bt0_is]
 rw [hs] at r
 have z1:((boot_heap w.params).isNs mainGlobals && (#[]:Array GenState).size == 0)=true:=by kernel_rfl
 have z2:(boot_heap w.params).objs.size=11:=by kernel_rfl
 have z3:(boot_heap w.params).nsMap mainGlobals "__annotations__" = some (.ref 6):=by kernel_rfl
 have t:topFrom treeTable p w N ⟨boot_heap w.params,#[],boot_drawn,boot_toks,os⟩=some s.abs:=by
  unfold topFrom
  dsimp only
  rw [z1,z2,z3,r]
  dsimp only [Option.bind]
  rw [l1]
 unfold openEnds
 rw [e1]
 show (topFrom treeTable p w N _).map _=_
 rw [t]
 exact congrArg some (Prod.ext l2 (Prod.ext (getT_map (f:=Prod.snd) l3) (getT_map (f:=fun _=>tabObj #[]) l4)))
theorem map_pair {ι α β γ:Type} {r:ι->Option α} {f:α->β} {g:α->γ} {b:β} {c:γ} (h1:(fun o=>(r o).map f)=fun _=>some b) (h2:(fun o=>(r o).map g)=fun _=>some c):(fun o=>(r o).map fun s=>(f s,g s))=fun _=>some (b,c):=by
 funext o
 have e1:(r o).map f=some b:=congrFun h1 o
 have e2:(r o).map g=some c:=congrFun h2 o
 show (r o).map (fun s=>(f s,g s))=some (b,c)
 cases e:r o with
 | none=>rw [e] at e1;cases e1
 | some s =>
  rw [e] at e1 e2
  injection e1 with e1
  injection e2 with e2
  show some (f s,g s)=_
  rw [e1,e2]
theorem map_split {ι α β γ:Type} {r:ι->Option α} {f:α->β} {g:α->γ} {b:β} {c:γ} (h:(fun o=>(r o).map fun s=>(f s,g s))=fun _=>some (b,c)):((fun o=>(r o).map f)=fun _=>some b)/\(fun o=>(r o).map g)=fun _=>some c:=by
 refine ⟨funext fun o=>?_,funext fun o=>?_⟩ <;>
 ·have e1:(r o).map (fun s=>(f s,g s))=some (b,c):=congrFun h o
  cases e:r o with
  | none=>rw [e] at e1;cases e1
  | some s =>
   rw [e] at e1
   have e2:(f s,g s)=(b,c):=Option.some.inj e1
   first
    | exact congrArg some (Prod.mk.inj e2).1
    | exact congrArg some (Prod.mk.inj e2).2
end PySem.W
section
open PySem PySem.W PyProof.Rows
noncomputable def K61.vw : Program := view PySem.Challenge.pw_joinedfolk_k61_refusals_apart [0, 2, 3, 4, 5, 6, 7, 8, 9, 10, 12, 14, 15, 16, 17, 18, 19, 20, 22, 23, 24, 25, 27, 28, 29, 30, 32, 33, 34, 35, 36, 37, 38, 40, 41, 42, 43, 44, 45, 46, 47, 48, 49, 51, 52, 53, 54, 56, 57, 58, 59, 60, 61, 62, 63, 64, 65]
noncomputable abbrev K61.R (w : World) (os : OsState) : Option SharedT := topRunT treeTable PySem.Challenge.pw_joinedfolk_k61_refusals_apart w 11 (some (.ref 6)) 20000 ⟨bt0 w.params, 11, {}, #[], boot_drawn, boot_toks, os⟩ (topStub PySem.Challenge.pw_joinedfolk_k61_refusals_apart)
noncomputable abbrev K61.X : Shared → Bool := (fun s => xlAt K61.vw [] s && recOk (RowW.records PySem.Challenge.rw_joinedfolk_k61_refusals_apart.row.toRowW) s)
abbrev K61.A : List Addr := [2, 3, 15, 17, 18, 20, 21, 22, 29, 30, 31, 32, 35, 42, 43, 44, 47, 54, 55, 56, 59, 66, 68, 69, 71, 72, 73, 74, 75, 78, 85, 87, 88, 90, 91, 92, 93, 94, 97, 104, 105, 106, 109, 116, 117, 118, 121, 128, 130, 131, 133, 134, 135, 136, 137, 140, 147, 148, 149, 159, 161, 162, 164, 165, 166, 168, 169, 171, 172, 173, 175, 176, 178, 179, 180, 182, 183, 185, 186, 187, 189, 190, 192, 193, 194, 195, 196, 197, 198, 201, 202, 204, 205, 207, 208, 209, 212, 213, 214, 216, 217, 219, 220, 221, 223, 224, 226, 227, 228, 230, 231, 233, 234, 242, 244, 245, 247, 248, 249, 251, 252, 254, 255, 256, 258, 259, 261, 262, 263, 265, 266, 268, 269, 270, 272, 273, 275, 276, 277, 279, 280, 282, 283, 284, 286, 287, 289, 290, 291, 293, 294, 296, 297, 298, 299, 301, 302, 304, 305, 306, 308, 309, 311, 312, 313, 315, 316, 318, 319, 320, 322, 323, 325, 326, 327, 329, 330, 332, 333, 334, 336, 337, 339, 340, 341, 343, 344, 346, 347, 348, 350, 351, 353, 354, 355, 358, 359, 360, 362, 363, 365, 366, 367, 369, 370, 372, 373, 374, 376, 377, 379, 380, 381, 383, 384, 386, 387, 388, 390, 391, 393, 394, 395, 397, 398, 400, 401, 402, 404, 405, 407, 408, 409, 411, 412, 414, 415, 416, 418, 419, 421, 422, 423, 425, 426, 428, 429, 430, 432, 433, 435, 436, 437, 439, 440, 442, 443, 444, 446, 447, 449, 450, 451, 453, 454, 456, 457, 458, 460, 461, 463, 464, 465, 467, 468, 470, 471, 472, 473, 474, 475, 476, 479, 482, 483, 484, 486, 487, 489, 490, 491, 494, 495, 496, 499, 500, 501, 503, 504, 506, 507, 508, 511, 512, 513, 515, 516, 518, 519, 520, 522, 523, 525, 526, 527, 530, 531, 532, 533, 534, 535, 536, 537, 538, 539, 540, 541, 542, 543, 545, 546, 548, 549, 550, 553, 554, 555, 558, 559, 560, 562, 563, 565, 566, 567, 569, 570, 572, 573, 574, 577, 578, 579, 581, 582, 584, 585, 586, 588, 589, 591, 592, 593, 595, 596, 598, 599, 600, 602, 603, 605, 606, 607, 609, 610, 612, 613, 614, 616, 617, 619, 620, 621, 623, 624, 626, 627, 628, 630, 631, 633, 634, 635, 638, 639, 640, 643, 644, 645, 647, 648, 650, 651, 652, 654, 655, 657, 658, 659, 661, 662, 664, 665, 666, 669, 670, 671, 674, 675]
section
local macro_rules
  | `(tactic| o_head $H) => `(tactic| exact (‹∀ G : Prop, G› _))
set_option maxRecDepth 1000000 in
set_option maxHeartbeats 0 in
theorem K61.front (h : ∀ G : Prop, G) : PySem.Challenge.rw_joinedfolk_k61_refusals_apart.Holds := by
  w_on; o_law; k_head
end
set_option maxRecDepth 1000000 in
set_option maxHeartbeats 0 in
theorem K61.g0F (w : World) : (fun os => (K61.R (w.withFollow "special-get-raises" false) os).map fun s => ((staticsOk (importedModules (PySem.Challenge.pw_joinedfolk_k61_refusals_apart).main.body) (boot_heap (w.withFollow "special-get-raises" false).params) s.abs.heap && namesBound PySem.Challenge.pw_joinedfolk_k61_refusals_apart s.abs.heap && gensDone s.abs && laidKept (boot_heap (w.withFollow "special-get-raises" false).params) s.abs.heap), seen ((recsOf K61.vw).map (·.name)) (ownsOf K61.vw) [] { s.abs with gens := #[] }, clsSeenW K61.vw ["Roof", "FORMS"] s.abs)) = fun _ => some (true, (expectedOf K61.vw), (clsGoodW K61.vw ["Roof", "FORMS"])) := by kernel_rfl
set_option maxRecDepth 1000000 in
set_option maxHeartbeats 0 in
theorem K61.g1F (w : World) : (fun os => (K61.R (w.withFollow "special-get-raises" false) os).map fun s => ((s.abs.heap.keysOk (looseW K61.vw ["Roof", "FORMS"]) ((recsOf K61.vw).map (·.name)) ((litsOf K61.vw).map (·.1)) ((clssOf K61.vw (looseW K61.vw ["Roof", "FORMS"])).map (·.name)) && s.abs.heap.accountedOkI (importedModules (PySem.Challenge.pw_joinedfolk_k61_refusals_apart).main.body) && s.abs.heap.isNs mainGlobals && s.abs.heap.isNs builtinsNs && tablesOk K61.vw s.abs.heap && K61.X s.abs && (if true then s.abs.gens.size == 0 else !leftWithCleanup s.abs.gens)), tabsOk K61.vw s.abs, wideSeen K61.vw s.abs)) = fun _ => some (true, true, (wideGood K61.vw)) := by kernel_rfl
set_option maxRecDepth 1000000 in
set_option maxHeartbeats 0 in
theorem K61.g2F (w : World) : (fun os => (K61.R (w.withFollow "special-get-raises" false) os).map fun s => (s.abs.heap.bltView, pinSeenD K61.vw (drecsOf K61.vw) s.abs, plainSeenD K61.vw ["Roof", "FORMS"] s.abs, plainSeenE K61.vw (looseW K61.vw ["Roof", "FORMS"]) s.abs)) = fun _ => some (bltViewBooted, (pinGoodD (drecsOf K61.vw)), (plainGoodD K61.vw ["Roof", "FORMS"]), (plainGoodE K61.vw (looseW K61.vw ["Roof", "FORMS"]))) := by kernel_rfl
set_option maxRecDepth 1000000 in
set_option maxHeartbeats 0 in
theorem K61.g3F (w : World) : (fun os => (K61.R (w.withFollow "special-get-raises" false) os).map fun s => (K61.A.map (getT s), [653, 672].map (getT s))) = fun _ => some ((K61.front.heap_39 (w.withFollow "special-get-raises" false).params).map (fun p => some p.2), [653, 672].map fun _ => some (tabObj #[])) := by kernel_rfl
theorem K61.lsF (w : World) : (fun os => (K61.R (w.withFollow "special-get-raises" false) os).map fun s => ((staticsOk (importedModules (PySem.Challenge.pw_joinedfolk_k61_refusals_apart).main.body) (boot_heap (w.withFollow "special-get-raises" false).params) s.abs.heap && namesBound PySem.Challenge.pw_joinedfolk_k61_refusals_apart s.abs.heap && gensDone s.abs && laidKept (boot_heap (w.withFollow "special-get-raises" false).params) s.abs.heap), seen ((recsOf K61.vw).map (·.name)) (ownsOf K61.vw) [] { s.abs with gens := #[] }, s.abs.heap.bltView, (s.abs.heap.keysOk (looseW K61.vw ["Roof", "FORMS"]) ((recsOf K61.vw).map (·.name)) ((litsOf K61.vw).map (·.1)) ((clssOf K61.vw (looseW K61.vw ["Roof", "FORMS"])).map (·.name)) && s.abs.heap.accountedOkI (importedModules (PySem.Challenge.pw_joinedfolk_k61_refusals_apart).main.body) && s.abs.heap.isNs mainGlobals && s.abs.heap.isNs builtinsNs && tablesOk K61.vw s.abs.heap && K61.X s.abs && (if true then s.abs.gens.size == 0 else !leftWithCleanup s.abs.gens)), tabsOk K61.vw s.abs, pinSeenD K61.vw (drecsOf K61.vw) s.abs, plainSeenE K61.vw (looseW K61.vw ["Roof", "FORMS"]) s.abs, plainSeenD K61.vw ["Roof", "FORMS"] s.abs, wideSeen K61.vw s.abs, clsSeenW K61.vw ["Roof", "FORMS"] s.abs)) = fun _ => some (true, expectedOf K61.vw, bltViewBooted, true, true, pinGoodD (drecsOf K61.vw), plainGoodE K61.vw (looseW K61.vw ["Roof", "FORMS"]), plainGoodD K61.vw ["Roof", "FORMS"], wideGood K61.vw, clsGoodW K61.vw ["Roof", "FORMS"]) := by
  obtain ⟨h_st, k0_0⟩ := map_split (K61.g0F w)
  obtain ⟨h_seen, h_cls⟩ := map_split k0_0
  obtain ⟨h_keys, k1_0⟩ := map_split (K61.g1F w)
  obtain ⟨h_tabs, h_wide⟩ := map_split k1_0
  obtain ⟨h_blt, k2_0⟩ := map_split (K61.g2F w)
  obtain ⟨h_pin, k2_1⟩ := map_split k2_0
  obtain ⟨h_pD, h_pE⟩ := map_split k2_1
  exact (map_pair h_st (map_pair h_seen (map_pair h_blt (map_pair h_keys (map_pair h_tabs (map_pair h_pin (map_pair h_pE (map_pair h_pD (map_pair h_wide h_cls)))))))))
theorem K61.lkF (w : World) : (fun os => (K61.R (w.withFollow "special-get-raises" false) os).map fun s => looksT PySem.Challenge.pw_joinedfolk_k61_refusals_apart K61.vw ["Roof", "FORMS"] K61.X true (w.withFollow "special-get-raises" false) s) = fun _ => some (true, openGood K61.vw ["Roof", "FORMS"]) := K61.lsF w
theorem K61.rdF (w : World) : (fun os => (K61.R (w.withFollow "special-get-raises" false) os).map fun s => (K61.A.map (getT s), [653, 672].map (getT s))) = fun _ => some ((K61.front.heap_39 (w.withFollow "special-get-raises" false).params).map (fun p => some p.2), [653, 672].map fun _ => some (tabObj #[])) := K61.g3F w
set_option maxRecDepth 1000000 in
set_option maxHeartbeats 0 in
theorem K61.g0T (w : World) : (fun os => (K61.R (w.withFollow "special-get-raises" true) os).map fun s => ((staticsOk (importedModules (PySem.Challenge.pw_joinedfolk_k61_refusals_apart).main.body) (boot_heap (w.withFollow "special-get-raises" true).params) s.abs.heap && namesBound PySem.Challenge.pw_joinedfolk_k61_refusals_apart s.abs.heap && gensDone s.abs && laidKept (boot_heap (w.withFollow "special-get-raises" true).params) s.abs.heap), seen ((recsOf K61.vw).map (·.name)) (ownsOf K61.vw) [] { s.abs with gens := #[] }, clsSeenW K61.vw ["Roof", "FORMS"] s.abs)) = fun _ => some (true, (expectedOf K61.vw), (clsGoodW K61.vw ["Roof", "FORMS"])) := by kernel_rfl
set_option maxRecDepth 1000000 in
set_option maxHeartbeats 0 in
theorem K61.g1T (w : World) : (fun os => (K61.R (w.withFollow "special-get-raises" true) os).map fun s => ((s.abs.heap.keysOk (looseW K61.vw ["Roof", "FORMS"]) ((recsOf K61.vw).map (·.name)) ((litsOf K61.vw).map (·.1)) ((clssOf K61.vw (looseW K61.vw ["Roof", "FORMS"])).map (·.name)) && s.abs.heap.accountedOkI (importedModules (PySem.Challenge.pw_joinedfolk_k61_refusals_apart).main.body) && s.abs.heap.isNs mainGlobals && s.abs.heap.isNs builtinsNs && tablesOk K61.vw s.abs.heap && K61.X s.abs && (if true then s.abs.gens.size == 0 else !leftWithCleanup s.abs.gens)), tabsOk K61.vw s.abs, wideSeen K61.vw s.abs)) = fun _ => some (true, true, (wideGood K61.vw)) := by kernel_rfl
set_option maxRecDepth 1000000 in
set_option maxHeartbeats 0 in
theorem K61.g2T (w : World) : (fun os => (K61.R (w.withFollow "special-get-raises" true) os).map fun s => (s.abs.heap.bltView, pinSeenD K61.vw (drecsOf K61.vw) s.abs, plainSeenD K61.vw ["Roof", "FORMS"] s.abs, plainSeenE K61.vw (looseW K61.vw ["Roof", "FORMS"]) s.abs)) = fun _ => some (bltViewBooted, (pinGoodD (drecsOf K61.vw)), (plainGoodD K61.vw ["Roof", "FORMS"]), (plainGoodE K61.vw (looseW K61.vw ["Roof", "FORMS"]))) := by kernel_rfl
set_option maxRecDepth 1000000 in
set_option maxHeartbeats 0 in
theorem K61.g3T (w : World) : (fun os => (K61.R (w.withFollow "special-get-raises" true) os).map fun s => (K61.A.map (getT s), [653, 672].map (getT s))) = fun _ => some ((K61.front.heap_39 (w.withFollow "special-get-raises" true).params).map (fun p => some p.2), [653, 672].map fun _ => some (tabObj #[])) := by kernel_rfl
theorem K61.lsT (w : World) : (fun os => (K61.R (w.withFollow "special-get-raises" true) os).map fun s => ((staticsOk (importedModules (PySem.Challenge.pw_joinedfolk_k61_refusals_apart).main.body) (boot_heap (w.withFollow "special-get-raises" true).params) s.abs.heap && namesBound PySem.Challenge.pw_joinedfolk_k61_refusals_apart s.abs.heap && gensDone s.abs && laidKept (boot_heap (w.withFollow "special-get-raises" true).params) s.abs.heap), seen ((recsOf K61.vw).map (·.name)) (ownsOf K61.vw) [] { s.abs with gens := #[] }, s.abs.heap.bltView, (s.abs.heap.keysOk (looseW K61.vw ["Roof", "FORMS"]) ((recsOf K61.vw).map (·.name)) ((litsOf K61.vw).map (·.1)) ((clssOf K61.vw (looseW K61.vw ["Roof", "FORMS"])).map (·.name)) && s.abs.heap.accountedOkI (importedModules (PySem.Challenge.pw_joinedfolk_k61_refusals_apart).main.body) && s.abs.heap.isNs mainGlobals && s.abs.heap.isNs builtinsNs && tablesOk K61.vw s.abs.heap && K61.X s.abs && (if true then s.abs.gens.size == 0 else !leftWithCleanup s.abs.gens)), tabsOk K61.vw s.abs, pinSeenD K61.vw (drecsOf K61.vw) s.abs, plainSeenE K61.vw (looseW K61.vw ["Roof", "FORMS"]) s.abs, plainSeenD K61.vw ["Roof", "FORMS"] s.abs, wideSeen K61.vw s.abs, clsSeenW K61.vw ["Roof", "FORMS"] s.abs)) = fun _ => some (true, expectedOf K61.vw, bltViewBooted, true, true, pinGoodD (drecsOf K61.vw), plainGoodE K61.vw (looseW K61.vw ["Roof", "FORMS"]), plainGoodD K61.vw ["Roof", "FORMS"], wideGood K61.vw, clsGoodW K61.vw ["Roof", "FORMS"]) := by
  obtain ⟨h_st, k0_0⟩ := map_split (K61.g0T w)
  obtain ⟨h_seen, h_cls⟩ := map_split k0_0
  obtain ⟨h_keys, k1_0⟩ := map_split (K61.g1T w)
  obtain ⟨h_tabs, h_wide⟩ := map_split k1_0
  obtain ⟨h_blt, k2_0⟩ := map_split (K61.g2T w)
  obtain ⟨h_pin, k2_1⟩ := map_split k2_0
  obtain ⟨h_pD, h_pE⟩ := map_split k2_1
  exact (map_pair h_st (map_pair h_seen (map_pair h_blt (map_pair h_keys (map_pair h_tabs (map_pair h_pin (map_pair h_pE (map_pair h_pD (map_pair h_wide h_cls)))))))))
theorem K61.lkT (w : World) : (fun os => (K61.R (w.withFollow "special-get-raises" true) os).map fun s => looksT PySem.Challenge.pw_joinedfolk_k61_refusals_apart K61.vw ["Roof", "FORMS"] K61.X true (w.withFollow "special-get-raises" true) s) = fun _ => some (true, openGood K61.vw ["Roof", "FORMS"]) := K61.lsT w
theorem K61.rdT (w : World) : (fun os => (K61.R (w.withFollow "special-get-raises" true) os).map fun s => (K61.A.map (getT s), [653, 672].map (getT s))) = fun _ => some ((K61.front.heap_39 (w.withFollow "special-get-raises" true).params).map (fun p => some p.2), [653, 672].map fun _ => some (tabObj #[])) := K61.g3T w
theorem K61.lk (w : World) : (fun os => (K61.R w os).map fun s => looksT PySem.Challenge.pw_joinedfolk_k61_refusals_apart K61.vw ["Roof", "FORMS"] K61.X true w s) = fun _ => some (true, openGood K61.vw ["Roof", "FORMS"]) := PySem.W.byRow2 "special-get-raises" (P := fun w => (fun os => (K61.R w os).map fun s => looksT PySem.Challenge.pw_joinedfolk_k61_refusals_apart K61.vw ["Roof", "FORMS"] K61.X true w s) = fun _ => some (true, openGood K61.vw ["Roof", "FORMS"])) K61.lkF K61.lkT w
theorem K61.rd (w : World) : (fun os => (K61.R w os).map fun s => (K61.A.map (getT s), [653, 672].map (getT s))) = fun _ => some ((K61.front.heap_39 w.params).map (fun p => some p.2), [653, 672].map fun _ => some (tabObj #[])) := PySem.W.byRow2 "special-get-raises" (P := fun w => (fun os => (K61.R w os).map fun s => (K61.A.map (getT s), [653, 672].map (getT s))) = fun _ => some ((K61.front.heap_39 w.params).map (fun p => some p.2), [653, 672].map fun _ => some (tabObj #[]))) K61.rdF K61.rdT w
theorem K61.lo : LeftO PySem.Challenge.pw_joinedfolk_k61_refusals_apart K61.vw ["Roof", "FORMS"] K61.X (Hook.obs (kmHook K61.front.heap_39 K61.A (fun _ => by kernel_rfl) [653, 672])) (Hook.val (kmHook K61.front.heap_39 K61.A (fun _ => by kernel_rfl) [653, 672])) 20000 true := left_tree (by kernel_rfl) (by kernel_rfl) (fun _ => rfl) K61.lk K61.rd
end
set_option Elab.async false
set_option linter.all false
set_option maxRecDepth 100000
namespace L2
open PySem PySem.Spec PyProof.Rows
abbrev Key:=Sum Int Str
def keyIs:Key->Value->Bool
 | .inl k,v=>Value.isInt k v
 | .inr x,v=>Value.isStrOf x v
def keyH (w:World):Key->Int
 | .inl k=>hashInt k
 | .inr x=>hashStr w x
theorem keyIs_shape:∀ {k:Key} {v:Value},keyIs k v=true->(∃ i t,k=Sum.inl i/\v=Value.int i t)\/(∃ x t,k=Sum.inr x/\v=Value.str x t)
 | .inl i,v,h=>by
  obtain ⟨t,e⟩:=Value.isInt_shape (k:=i) (v:=v) h
  exact .inl ⟨i,t,rfl,e⟩
 | .inr x,v,h=>by
  obtain ⟨t,e⟩:=Value.isStrOf_shape (x:=x) (v:=v) h
  exact .inr ⟨x,t,rfl,e⟩
theorem keyIs_int (i:Int) (t:Tok):keyIs (.inl i) (.int i t)=true:=by simp [keyIs,Value.isInt]
theorem keyIs_str (x:Str) (t:Tok):keyIs (.inr x) (.str x t)=true:=by simp [keyIs,Value.isStrOf]
theorem key_ll (a b:Int):decide ((Sum.inl a:Key)=Sum.inl b)=(a == b):=by
 by_cases e:a=b
 ·subst e;simp
 ·have h:¬ (Sum.inl a:Key)=Sum.inl b:=fun q=>e (Sum.inl.inj q)
  rw [decide_eq_false h]
  exact (beq_eq_false_iff_ne.mpr e).symm
theorem key_rr (a b:Str):decide ((Sum.inr a:Key)=Sum.inr b)=decide (a=b):=by
 by_cases e:a=b
 ·subst e;simp
 ·have h:¬ (Sum.inr a:Key)=Sum.inr b:=fun q=>e (Sum.inr.inj q)
  rw [decide_eq_false h,decide_eq_false e]
theorem key_lr (a:Int) (b:Str):decide ((Sum.inl a:Key)=Sum.inr b)=false:=decide_eq_false (fun q=>nomatch q)
theorem key_rl (a:Str) (b:Int):decide ((Sum.inr a:Key)=Sum.inl b)=false:=decide_eq_false (fun q=>nomatch q)
def mixKind (prog:Program) (w:World):PySem.KeyKind prog w Key where
 is:=keyIs
 hash:=keyH w
 inj:=fun v a b ha hb=>by
  rcases keyIs_shape ha with ⟨i,t,rfl,rfl⟩ | ⟨x,t,rfl,rfl⟩
  ·rcases keyIs_shape hb with ⟨j,u,rfl,e⟩ | ⟨y,u,rfl,e⟩
   ·injection e with e1 _;rw [e1]
   ·exact nomatch e
  ·rcases keyIs_shape hb with ⟨j,u,rfl,e⟩ | ⟨y,u,rfl,e⟩
   ·exact nomatch e
   ·injection e with e1 _;rw [e1]
 byValue:=fun k v h=>by
  rcases keyIs_shape h with ⟨i,t,rfl,rfl⟩ | ⟨x,t,rfl,rfl⟩ <;> rfl
 pyHash:=fun hv h=>by
  rcases keyIs_shape hv with ⟨i,t,rfl,rfl⟩ | ⟨x,t,rfl,rfl⟩
  ·exact wpAny_pyHash_int h
  ·exact wpAny_pyHash_str h
 eqBool:=fun hu hv h=>by
  rcases keyIs_shape hu with ⟨i,t,rfl,rfl⟩ | ⟨x,t,rfl,rfl⟩
  ·rcases keyIs_shape hv with ⟨j,u,rfl,rfl⟩ | ⟨y,u,rfl,rfl⟩
   ·rw [key_ll] at h;exact wpAny_eqBool_int h
   ·rw [key_lr] at h;exact SeqAt.EqAt.int_str i t y u _ _ _ _ h
  ·rcases keyIs_shape hv with ⟨j,u,rfl,rfl⟩ | ⟨y,u,rfl,rfl⟩
   ·rw [key_rl] at h;exact SeqAt.EqAt.str_int x t j u _ _ _ _ h
   ·rw [key_rr] at h;exact wpAny_eqBool_str h
 «strs»:=fun k x t v h=>by
  rcases keyIs_shape h with ⟨i,u,rfl,e⟩ | ⟨y,u,rfl,e⟩
  ·exact nomatch e
  ·injection e with e1 _
   subst e1
   cases v <;> rfl
theorem mixKind_int (prog:Program) (w:World) (i:Int) (t:Tok):(mixKind prog w).is (.inl i) (.int i t)=true:=keyIs_int i t
theorem mixKind_str (prog:Program) (w:World) (x:Str) (t:Tok):(mixKind prog w).is (.inr x) (.str x t)=true:=keyIs_str x t
end L2
namespace L2
open PySem PySem.Spec PyProof.Rows
inductive V where
 | non | bl (b:Bool) | int (i:Int) | str (x:Str) | byt (b:Array UInt8) | flt (b:UInt64) | ref (a:Addr) | ty (n:String)
 deriving DecidableEq
def RelV:V->Value->Prop
 | .non,u=>u=Value.none
 | .bl b,u=>u=Value.bool b
 | .int i,u=>∃ t,u=Value.int i t
 | .str x,u=>∃ t,u=Value.str x t
 | .byt b,u=>∃ t,u=Value.bytes b t
 | .flt b,u=>∃ t,u=Value.float b t
 | .ref a,u=>u=Value.ref a
 | .ty n,u=>u=Value.type n
abbrev Vals:List V->List Value->Prop:=Paired RelV
theorem Vals.length {xs:List V} {us:List Value} (r:Vals xs us):xs.length=us.length:=Paired.length r
theorem Vals.get:∀ {xs:List V} {us:List Value} {i:Nat} {x:V},Vals xs us->xs[i]?=some x->∃ u,us[i]?=some u/\RelV x u
 | _,_,_,_,.nil,e=>by simp at e
 | _,_,0,_,.cons r _,e=>by simp at e;subst e;exact ⟨_,rfl,r⟩
 | _,_,i + 1,x,.cons _ t,e=>by
  obtain ⟨u,h1,h2⟩:=Vals.get (i:=i) (x:=x) t (by simpa using e)
  exact ⟨u,by simpa using h1,h2⟩
theorem Vals.set {x:V} {u:Value} (r:RelV x u):∀ {xs:List V} {us:List Value} (i:Nat),Vals xs us->Vals (xs.set i x) (us.set i u)
 | _,_,_,.nil=>.nil
 | _,_,0,.cons _ t=>.cons r t
 | _,_,i + 1,.cons q t=>.cons q (Vals.set r i t)
theorem Vals.append:∀ {xs ys:List V} {us ws:List Value},Vals xs us->Vals ys ws->Vals (xs++ys) (us++ws)
 | _,_,_,_,.nil,s=>s
 | _,_,_,_,.cons r t,s=>.cons r (Vals.append t s)
theorem Vals.take:∀ {xs:List V} {us:List Value} (n:Nat),Vals xs us->Vals (xs.take n) (us.take n)
 | _,_,0,_=>.nil
 | _,_,_ + 1,.nil=>.nil
 | _,_,n + 1,.cons r t=>.cons r (Vals.take n t)
theorem Vals.drop:∀ {xs:List V} {us:List Value} (n:Nat),Vals xs us->Vals (xs.drop n) (us.drop n)
 | _,_,0,r=>r
 | _,_,_ + 1,.nil=>.nil
 | _,_,n + 1,.cons _ t=>Vals.drop n t
def RelO:Option V->Option Value->Prop
 | some v,some u=>RelV v u
 | none,none=>True
 | _,_=>False
def KV {κ:Type}:List (κ × V)->List (κ × Value)->Prop:=Paired fun (p:κ × V) (q:κ × Value)=>p.1=q.1/\RelV p.2 q.2
def kV:Key->V
 | .inl i=>.int i
 | .inr x=>.str x
inductive HO where
 /-- a list -/
 | lst (xs:List V)
 /-- a tuple (never changes) -/
 | tup (xs:List V)
 /-- a dict whose keys are ints and texts;one whose keys are tuples of ints and texts (the empty one is both) -/
 | dK (kvs:List (Key × V)) | dT (kvs:List (List Key × V))
 /-- a set of ints: its members,its size -/
 | set (S:Int->Bool) (n:Nat)
 /-- an instance of the class at C,its dict at dx,its attributes -/
 | ins (C dx:Addr) (fs:List (Str × V))
 /-- the dict of the instance at x -/
 | own (x:Addr)
 /-- the dict of an exception -/
 | xd (fs:List (Str × V))
 /-- a bound method,f of x -/
 | met (f x:Addr)
 /-- a range object lo,lo + 1,.. below hi -/
 | rng (lo hi:Int)
 /-- a thing that is known to the object (the script;a dict while a loop walks it): read,never written while it is so -/
 | frz (o:Obj) (u:HO)
 /-- a code object's table -/
 | tbl (ps:Array Value)
 /-- any other thing,by what is true of its one object (a def of one's own: SetO a S n:=HO.ext fun h=>..) -/
 | ext (φ:Heap->Prop)
abbrev Hp:=Addr->Option HO
def upd (H:Hp) (a:Addr) (o:HO):Hp:=fun b=>if b=a then some o else H b
theorem upd_same {H:Hp} {a:Addr} {o:HO}:upd H a o a=some o:=by unfold upd;rw [if_pos rfl]
theorem upd_ne {H:Hp} {a b:Addr} {o:HO} (h:b ≠ a):upd H a o b=H b:=by unfold upd;rw [if_neg h]
theorem ne_of {H:Hp} {a b:Addr} {o u:HO} (h:H a=some o) (h':H b=some u) (d:o ≠ u):a ≠ b:=by
 intro e;subst e;rw [h] at h';exact d (Option.some.inj h')
theorem ne_of_none {H:Hp} {a b:Addr} {o:HO} (h:H a=some o) (h':H b=none):a ≠ b:=by
 intro e;subst e;rw [h] at h';cases h'
section
variable (P:Program) (w:World)
def ObjOk (H:Hp) (h:Heap) (a:Addr):HO->Prop
 | .lst xs=>xs.length<=sizeLine/\∃ (its:List Value) (n:Nat),Vals xs its/\h.get? a=some { cls:=.type "list",data:=.seq its.toArray n }
 | .tup xs=>xs.length<=sizeLine/\∃ its:List Value,Vals xs its/\IsTup h a its.toArray
 | .dK kvs=>kvs.length<=sizeLine/\(a == sysModules)=false/\∃ vs,KV kvs vs/\h.DictOf (mixKind P w) a vs
 | .dT kvs=>kvs.length<=sizeLine/\(a == sysModules)=false/\∃ xs:List (List Key × Addr × Value),
   Paired (fun (p:List Key × V) (q:List Key × Addr × Value)=>p.1=q.1/\H q.2.1=some (.tup (p.1.map kV))/\RelV p.2 q.2.2) kvs xs /\
   ∃ o es ep,h.get? a=some o/\o.ExactDict/\o.data=.dict es ep/\es.toList=xs.map (entryOfKey (tupleKind (mixKind P w)))/\(xs.map (·.1)).Nodup
 | .set S n=>h.SetOf (intKind P w) a S n
 | .ins C dx fs=>H dx=some (.own a)/\fs.length<=1000/\dx ≠ a/\h.get? a=some (PySem.W.instObj C dx) /\
   ∃ mA,h.Ns1 dx mA/\(∀ f,RelO (fs.lookup f) (mA f))/\PySem.Within mA (fs.map (·.1))
 | .own _=>∃ o,h.get? a=some o
 | .xd fs=>∃ mA,h.Ns1 a mA/\∀ f,RelO (fs.lookup f) (mA f)
 | .rng lo hi=>∃ t u v,h.get? a=some { cls:=.type "range",data:=.fields #[.int lo t,.int hi u,.int 1 v] }
 | .frz o u=>h.get? a=some o/\ObjOk H h a u
 | .tbl ps=>h.get? a=some { cls:=.none,data:=.fields ps }
 | .met f x=>h.get? a=some (PySem.W.methodObj (.ref f) (.ref x))
 | .ext φ=>φ h/\(∃ o,h.get? a=some o)/\∀ h1 h2:Heap,φ h1->(∀ o,h1.get? a=some o->h2.get? a=some o)->φ h2
def HOk (H:Hp) (h:Heap):Prop:=∀ a o,H a=some o->ObjOk P w H h a o
end
section
variable {P:Program} {w:World} {H H':Hp} {h h':Heap} {a:Addr} {o:HO}
theorem ObjOk.lt (x:ObjOk P w H h a o):a < h.objs.size:=by
 cases o with
 | lst xs=>obtain ⟨_,_,_,_,e⟩:=x;exact Heap.lt_size e
 | tup xs=>obtain ⟨_,_,_,p⟩:=x;exact p.lt
 | dK kvs=>obtain ⟨_,_,_,_,o,_,_,e,_⟩:=x;exact Heap.lt_size e
 | dT kvs=>obtain ⟨_,_,_,_,o,_,_,e,_⟩:=x;exact Heap.lt_size e
 | set S n=>obtain ⟨o,_,_,_,e,_⟩:=x;exact Heap.lt_size e
 | ins C dx fs=>obtain ⟨_,_,_,e,_⟩:=x;exact Heap.lt_size e
 | own y=>obtain ⟨_,e⟩:=x;exact Heap.lt_size e
 | xd fs=>obtain ⟨_,⟨_,_,_,e,_⟩,_⟩:=x;exact Heap.lt_size e
 | rng lo hi=>obtain ⟨_,_,_,e⟩:=x;exact Heap.lt_size e
 | frz ob u=>obtain ⟨e,_⟩:=x;exact Heap.lt_size e
 | tbl ps=>exact Heap.lt_size (show h.get? a=some _ from x)
 | met f y=>exact Heap.lt_size (show h.get? a=some _ from x)
 | ext φ=>obtain ⟨_,⟨_,e⟩,_⟩:=x;exact Heap.lt_size e
theorem Paired.mapP {α β:Type} {F G:α->β->Prop}:∀ {l₁:List α} {l₂:List β},Paired F l₁ l₂->(∀ a b,F a b->G a b)->Paired G l₁ l₂
 | _,_,.nil,_=>.nil
 | _,_,.cons r t,f=>.cons (f _ _ r) (Paired.mapP t f)
theorem ObjOk.stay (x:ObjOk P w H h a o) (k:∀ b u,(b=a\/H b=some (.own a))->h.get? b=some u->h'.get? b=some u)
  (ho:∀ b,H b=some (.own a)->H' b=some (.own a)) (ht:∀ b xs,H b=some (.tup xs)->H' b=some (.tup xs)):ObjOk P w H' h' a o:=by
 induction o with
 | lst xs=>obtain ⟨z,its,n,r,e⟩:=x;exact ⟨z,its,n,r,k _ _ (.inl rfl) e⟩
 | tup xs=>obtain ⟨z,its,r,ob,e,c⟩:=x;exact ⟨z,its,r,ob,k _ _ (.inl rfl) e,c⟩
 | dK kvs=>obtain ⟨z,y,vs,r,ob,es,ep,e,c⟩:=x;exact ⟨z,y,vs,r,ob,es,ep,k _ _ (.inl rfl) e,c⟩
 | dT kvs =>
  obtain ⟨z,y,xs,r,ob,es,ep,e,c⟩:=x
  exact ⟨z,y,xs,Paired.mapP r fun p q z=>⟨z.1,ht _ _ z.2.1,z.2.2⟩,ob,es,ep,k _ _ (.inl rfl) e,c⟩
 | set S n=>obtain ⟨ob,es,ep,t,e,c⟩:=x;exact ⟨ob,es,ep,t,k _ _ (.inl rfl) e,c⟩
 | ins C dx fs =>
  obtain ⟨d,z,ne,e,mA,⟨od,es,ep,e2,c⟩,r⟩:=x
  exact ⟨ho _ d,z,ne,k _ _ (.inl rfl) e,mA,⟨od,es,ep,k _ _ (.inr d) e2,c⟩,r⟩
 | own y=>obtain ⟨ob,e⟩:=x;exact ⟨ob,k _ _ (.inl rfl) e⟩
 | xd fs=>obtain ⟨mA,⟨od,es,ep,e,c⟩,r⟩:=x;exact ⟨mA,⟨od,es,ep,k _ _ (.inl rfl) e,c⟩,r⟩
 | rng lo hi=>obtain ⟨t,u,v,e⟩:=x;exact ⟨t,u,v,k _ _ (.inl rfl) e⟩
 | frz ob u ih=>obtain ⟨e,q⟩:=x;exact ⟨k _ _ (.inl rfl) e,ih q⟩
 | tbl ps =>
  have e:h.get? a=some { cls:=.none,data:=.fields ps }:=x
  show h'.get? a=some { cls:=.none,data:=.fields ps }
  exact k a _ (.inl rfl) e
 | met f y =>
  have e:h.get? a=some (PySem.W.methodObj (.ref f) (.ref y)):=x
  show h'.get? a=some (PySem.W.methodObj (.ref f) (.ref y))
  exact k a _ (.inl rfl) e
 | ext φ=>obtain ⟨p,⟨o,e⟩,st⟩:=x;exact ⟨st _ _ p fun o q=>k _ _ (.inl rfl) q,⟨o,k _ _ (.inl rfl) e⟩,st⟩
theorem HOk.lt (x:HOk P w H h) (e:H a=some o):a < h.objs.size:=(x a o e).lt
theorem HOk.fresh (x:HOk P w H h) (e:h.objs.size<=a):H a=none:=by
 cases q:H a with
 | none=>rfl
 | some u=>exact absurd (Nat.lt_of_lt_of_le (x.lt q) e) (Nat.lt_irrefl _)
theorem HOk.kept (x:HOk P w H h) (k:∀ b u,h.get? b=some u->h'.get? b=some u):HOk P w H h':=fun a o e =>
 (x a o e).stay (fun b u _ q=>k b u q) (fun _ q=>q) fun _ _ q=>q
theorem HOk.laid (x:HOk P w H h) (k:∀ b u,h.get? b=some u->h'.get? b=some u) (hp:h.objs.size<=a) (new:ObjOk P w (upd H a o) h' a o):HOk P w (upd H a o) h':=fun b u e=>by
 have hn:=x.fresh hp
 by_cases hb:b=a
 ·subst hb;rw [upd_same] at e;cases e;exact new
 ·rw [upd_ne hb] at e
  exact (x b u e).stay (fun c v _ q=>k c v q) (fun c q=>by rw [upd_ne (ne_of_none q hn)];exact q) fun c xs q=>by rw [upd_ne (ne_of_none q hn)];exact q
end
def Rd (H:Hp) (a:Addr) (u:HO):Prop:=H a=some u\/∃ o,H a=some (.frz o u)
theorem Rd.ok {P:Program} {w:World} {H:Hp} {h:Heap} {a:Addr} {u:HO} (r:Rd H a u) (x:HOk P w H h):ObjOk P w H h a u:=by
 rcases r with r | ⟨o,r⟩
 ·exact x a u r
 ·obtain ⟨_,q⟩:=x a _ r
  exact q
def Mut:Option HO->Prop
 | some (.lst _)=>True
 | some (.dK _)=>True
 | some (.dT _)=>True
 | some (.set _ _)=>True
 | some (.ins _ _ _)=>True
 | some (.ext _)=>True
 | _=>False
section
variable {P:Program} {w:World} {H:Hp} {h h':Heap} {x e:Addr} {o':HO}
theorem HOk.write (ok:HOk P w H h) (mu:Mut (H x)) (he:e=x\/H e=some (.own x)) (k:∀ b u,b ≠ e->h.get? b=some u->h'.get? b=some u) (heo:∃ u,h'.get? e=some u)
  (new:ObjOk P w (upd H x o') h' x o'):HOk P w (upd H x o') h':=fun b u q=>by
 have nown:∀ c y,H c=some (.own y)->c ≠ x:=fun c y r z=>by subst z;rw [r] at mu;exact mu
 have ntup:∀ c xs,H c=some (.tup xs)->c ≠ x:=fun c xs r z=>by subst z;rw [r] at mu;exact mu
 by_cases hb:b=x
 ·subst hb;rw [upd_same] at q;cases q;exact new
 ·rw [upd_ne hb] at q
  by_cases hbe:b=e
  ·have q':H b=some (.own x):=by
    rcases he with z | z
    ·exact absurd (hbe.trans z) hb
    ·rw [hbe];exact z
   rw [q] at q';cases q'
   obtain ⟨v,hv⟩:=heo
   exact ⟨v,by rw [hbe];exact hv⟩
  ·refine (ok b u q).stay (fun c v hc r=>k c v ?_ r) (fun c r=>by rw [upd_ne (nown c b r)];exact r) fun c xs r=>by rw [upd_ne (ntup c xs r)];exact r
   rcases hc with rfl | hc
   ·exact hbe
   ·rintro rfl
    rcases he with z | z
    ·exact nown c b hc z
    ·rw [hc] at z;cases z;exact hb rfl
end
structure Un (fs ex:List Addr) (H H':Hp) (h h':Heap):Prop where
 keep:∀ b o,h.get? b=some o->H b=none->b ∉ fs->b ∉ ex->h'.get? b=some o
 slot:∀ b o,h.get? b=some o->H b=none->b ∈ fs->b ∉ ex->∃ sl,h'.get? b=some { o with slots:=sl }
 free:∀ b o,h.get? b=some o->H b=none->b ∉ ex->H' b=none
 there:∀ b o,h.get? b=some o->b ∉ ex->∃ o',h'.get? b=some o'
 tups:∀ b xs,H b=some (.tup xs)->H' b=some (.tup xs)
 frzs:∀ b o u,H b=some (.frz o u)->H' b=some (.frz o u)
 tbls:∀ b ps,H b=some (.tbl ps)->∃ more,H' b=some (.tbl (ps++more))
section
variable {fs fs' ex ex':List Addr} {H H1 H2:Hp} {h h1 h2 h':Heap} {a x e:Addr} {o:HO}
theorem Un.any (u:Un fs ex H H1 h h1) {b:Addr} {ob:Obj} (q:h.get? b=some ob) (n:H b=none) (hx:b ∉ ex):∃ sl,h1.get? b=some { ob with slots:=sl }:=by
 by_cases hb:b ∈ fs
 ·exact u.slot b ob q n hb hx
 ·exact ⟨ob.slots,u.keep b ob q n hb hx⟩
theorem Un.kept (k:∀ b u,h.get? b=some u->h'.get? b=some u):Un fs ex H H h h' :=
 ⟨fun b ob q _ _ _=>k b ob q,fun b ob q _ _ _=>⟨ob.slots,k b ob q⟩,fun _ _ _ n _=>n,fun b ob q _=>⟨ob,k b ob q⟩,fun _ _ q=>q,fun _ _ _ q=>q,fun _ ps q=>⟨#[],by rw [q];simp⟩⟩
theorem Un.refl:Un fs ex H H h h:=Un.kept fun _ _ q=>q
theorem Un.laid (k:∀ b u,h.get? b=some u->h'.get? b=some u) (hp:h.objs.size<=a) (hn:H a=none):Un fs ex H (upd H a o) h h' where
 keep:=fun b u q _ _ _=>k b u q
 slot:=fun b u q _ _ _=>⟨u.slots,k b u q⟩
 free:=fun b u q n _=>by rw [upd_ne (Nat.ne_of_lt (Nat.lt_of_lt_of_le (Heap.lt_size q) hp))];exact n
 there:=fun b u q _=>⟨u,k b u q⟩
 tups:=fun b xs q=>by rw [upd_ne (ne_of_none q hn)];exact q
 frzs:=fun b u xs q=>by rw [upd_ne (ne_of_none q hn)];exact q
 tbls:=fun b ps q=>⟨#[],by rw [upd_ne (ne_of_none q hn),q];simp⟩
theorem Un.write (mu:Mut (H x)) (he:e=x\/H e=some (.own x)) (k:∀ b u,b ≠ e->h.get? b=some u->h'.get? b=some u) (heo:∃ u,h'.get? e=some u):Un fs ex H (upd H x o) h h':=by
 have hx:∀ b,H b=none->b ≠ x:=fun b n z=>by subst z;rw [n] at mu;exact mu
 have hb:∀ b,H b=none->b ≠ e:=fun b n z=>by
  subst z
  rcases he with r | r
  ·exact hx b n r
  ·rw [n] at r;cases r
 have hm:∀ b u,H b=some u->¬ Mut (some u)->b ≠ x:=fun b u q nm z=>by subst z;rw [q] at mu;exact nm mu
 refine ⟨fun b u q n _ _=>k b u (hb b n) q,fun b u q n _ _=>⟨u.slots,k b u (hb b n) q⟩,fun b u q n _=>by rw [upd_ne (hx b n)];exact n,fun b u q _=>?_,
  fun b xs q=>by rw [upd_ne (hm b _ q fun z=>z)];exact q,fun b u xs q=>by rw [upd_ne (hm b _ q fun z=>z)];exact q,fun b ps q=>⟨#[],by rw [upd_ne (hm b _ q fun z=>z),q];simp⟩⟩
 by_cases hbe:b=e
 ·subst hbe;exact heo
 ·exact ⟨u,k b u hbe q⟩
end
def trk (h:Heap) (H:Hp):List Addr:=(List.range h.objs.size).filter fun a=>(H a).isSome
def hidT (h:Heap) (H:Hp):Heap:=PySem.W.hideAll h (trk h H)
theorem hidT_size (h:Heap) (H:Hp):(hidT h H).objs.size=h.objs.size:=PySem.W.hideAll_size _ _
theorem hidT_get {h:Heap} {H:Hp} {b:Addr} {o:Obj} (e:h.get? b=some o) (n:H b=none):(hidT h H).get? b=some o :=
 PySem.W.hideAll_get _ e fun hm=>by
  have q:(H b).isSome=true:=(List.mem_filter.mp hm).2
  rw [n] at q;simp at q
theorem of_hidT {h:Heap} {H:Hp} {b:Addr} {o:Obj} (e:(hidT h H).get? b=some o):h.get? b=some o/\H b=none:=by
 have e':h.get? b=some o:=PySem.W.of_hideAll (trk h H) e
 refine ⟨e',?_⟩
 cases q:H b with
 | none=>rfl
 | some x =>
  have hm:b ∈ trk h H:=List.mem_filter.mpr ⟨List.mem_range.mpr (Heap.lt_size e'),by simp [q]⟩
  have z:(hidT h H).get? b=none:=PySem.W.hideAll_none (trk h H) hm
  rw [z] at e;cases e
end L2
namespace L2
open PySem PySem.Spec PyProof.Rows
structure Mod (K:PySem.W.Frag) (mg:Str->Option Value) (base:Heap):Prop where
 kin:K.In base
 glob:base.Ns mainGlobals mg
 blt:∃ mb,base.Ns builtinsNs mb/\∀ x:Str,x ≠ "__name__"->mb x=bootBuiltins x
 nolimit:base.NoLimit
structure Cx where
 prog:Program
 w:World
 K:PySem.W.Frag
 mg:Str->Option Value
 base:Heap
 A:Around
 N:List Str
 s₀:Shared
 H₀:Hp
 env:Env
 outer:List Env
 stack:List Env
 ex:List Addr
 fn:Str->Bool
 calm:Bool
 pn:List (Addr × Obj)
 xe:Value->Shared->Prop
def frs (l:List Env):List Addr:=l.filterMap (·.frame)
abbrev Cx.fs (X:Cx):List Addr:=frs X.outer
def Vis (sc:Scope) (x:Str):Prop:=sc.names.lookup x=some .local\/sc.names.lookup x=some .cell\/sc.names.lookup x=some .free
def Loc (sc:Scope) (x:Str):Prop:=sc.names.lookup x=some .local\/sc.names.lookup x=some .cell
def Look (env:Env) (h:Heap) (m:Str->Option Value) (x:Str) (u:Value):Prop :=
 (env.kindOf x=some .local/\m x=some u)\/((env.kindOf x=some .cell\/env.kindOf x=some .free)/\∃ c,env.cells.lookup x=some c/\h.IsCell c (some u))
structure Cx.Ok (X:Cx):Prop where
 mod:Mod X.K X.mg X.base
 kind:X.env.scope.kind=.function
 glob:X.env.globals=mainGlobals
 blt:X.env.builtins=builtinsNs
 above:X.s₀.heap.objs.size<=X.env.locals
 inj:∀ x y c,X.env.cells.lookup x=some c->X.env.cells.lookup y=some c->x=y
 has:∀ x,(X.env.kindOf x=some .cell\/X.env.kindOf x=some .free)->∃ c,X.env.cells.lookup x=some c
 cab:∀ x c,X.fn x=true->X.env.cells.lookup x=some c->X.s₀.heap.objs.size<=c
 hd:X.calm=true->X.A.handled=none
 frames:X.A.frames=some X.stack
 stk:X.stack=X.outer\/(X.stack=X.env :: X.outer/\X.env.frame=some X.env.locals)
 exf:∀ b ∈ X.ex,b ≠ X.env.locals/\∀ x c,X.env.cells.lookup x=some c->c ≠ b
 bs:∀ b o,X.base.get? b=some o->X.s₀.heap.get? b=some o/\X.H₀ b=none
 bsz:X.base.objs.size<=X.s₀.heap.objs.size
 noex:∀ b o,X.base.get? b=some o->b ∉ X.ex
 exfs:∀ b ∈ X.ex,b ∉ X.fs
 funs:X.s₀.heap.FunFrames X.base X.outer
 frf:∀ b ∈ X.fs,X.H₀ b=none
structure Inv (X:Cx) (pins:List (Addr × Obj)) (σ:List (Option V)) (H:Hp) (s:Shared):Prop where
 ok:X.Ok
 os:s.os=X.s₀.os
 bare:AllBare s.gens
 base:Un X.fs X.ex X.H₀ H X.s₀.heap s.heap
 loc:∃ m,s.heap.Ns X.env.locals m/\∀ (i:Nat) (x:Str) (v:V),X.N[i]?=some x->σ[i]?=some (some v)->Vis X.env.scope x->∃ u,RelV v u/\Look X.env s.heap m x u
 cell:∀ x c,X.env.cells.lookup x=some c->∃ v,s.heap.IsCell c v
 free:H X.env.locals=none
 freeC:∀ x c,X.env.cells.lookup x=some c->H c=none
 pin:∀ p ∈ X.pn++pins,s.heap.get? p.1=some p.2/\H p.1=none/\p.1 ≠ X.env.locals/\p.1 ∉ X.fs/\∀ v,p.2.data ≠ .cell v
 hok:HOk X.prog X.w H s.heap
 len:σ.length=X.N.length
section
variable {X:Cx} {pins:List (Addr × Obj)} {σ:List (Option V)} {H H':Hp} {s:Shared} {h':Heap}
theorem Cx.Ok.nofr (ok:X.Ok) {b:Addr} {o:Obj} (e:X.base.get? b=some o):b ∉ X.fs:=fun hb=>by
 have:=(ok.funs.mem hb).1
 rw [e] at this;cases this
theorem Inv.bs (I:Inv X pins σ H s):∀ b o,X.base.get? b=some o->s.heap.get? b=some o/\H b=none:=fun b o e =>
 ⟨I.base.keep b o (I.ok.bs b o e).1 (I.ok.bs b o e).2 (I.ok.nofr e) (I.ok.noex b o e),I.base.free b o (I.ok.bs b o e).1 (I.ok.bs b o e).2 (I.ok.noex b o e)⟩
theorem Inv.bk (I:Inv X pins σ H s):∀ b o,X.base.get? b=some o->s.heap.get? b=some o:=fun b o e=>(I.bs b o e).1
theorem Inv.mod (I:Inv X pins σ H s):Mod X.K X.mg X.base:=I.ok.mod
theorem Inv.kIn (I:Inv X pins σ H s):X.K.In s.heap:=I.ok.mod.kin.keeps I.bk
theorem Inv.nolimit (I:Inv X pins σ H s):s.heap.NoLimit:=I.ok.mod.nolimit.keeps I.bk
theorem Inv.lt (I:Inv X pins σ H s):X.env.locals < s.heap.objs.size:=let ⟨_,hn,_⟩:=I.loc;hn.lt
theorem Inv.sz (I:Inv X pins σ H s):X.s₀.heap.objs.size<=s.heap.objs.size:=Nat.le_trans I.ok.above (Nat.le_of_lt I.lt)
theorem Inv.nofs (I:Inv X pins σ H s) {a:Addr} (h:s.heap.objs.size<=a):a ∉ X.fs:=fun hb=>by
 obtain ⟨_,o,ho,_⟩:=I.ok.funs.mem hb
 exact absurd (Nat.lt_of_lt_of_le (Heap.lt_size ho) (Nat.le_trans I.sz h)) (Nat.lt_irrefl _)
theorem Inv.cne (I:Inv X pins σ H s):∀ x c,X.env.cells.lookup x=some c->c ≠ X.env.locals:=fun x c e z=>by
 obtain ⟨v,o,ho,hd⟩:=I.cell x c e
 obtain ⟨m,⟨o',es,ep,ho',hd',_⟩,_⟩:=I.loc
 rw [z,ho'] at ho;cases ho;rw [hd'] at hd;cases hd
theorem Inv.funs (I:Inv X pins σ H s):s.heap.FunFrames X.base X.outer:=by
 have all:∀ (l:List Env),(∀ b ∈ frs l,b ∈ X.fs)->X.s₀.heap.FunFrames X.base l->s.heap.FunFrames X.base l:=by
  intro l
  induction l with
  | nil=>intro _ _;trivial
  | cons env r ih =>
   intro hs hl
   obtain ⟨hk,⟨L,o,hf,hn,ho,hd⟩,hr⟩:=hl
   have hL:L ∈ X.fs:=hs L (by unfold frs;rw [List.filterMap_cons,hf];exact List.mem_cons_self)
   obtain ⟨sl,e⟩:=I.base.slot L o ho (I.ok.frf L hL) hL fun z=>I.ok.exfs L z hL
   exact ⟨hk,⟨L,_,hf,hn,e,hd⟩,ih (fun b hb=>hs b (by unfold frs;rw [List.filterMap_cons,hf];exact List.mem_cons_of_mem _ hb)) hr⟩
 exact all X.outer (fun _ hb=>hb) I.ok.funs
theorem Inv.stack (I:Inv X pins σ H s):s.heap.FunFrames X.base X.stack:=by
 rcases I.ok.stk with e | ⟨e,hf⟩
 ·rw [e];exact I.funs
 ·rw [e]
  obtain ⟨m,hn,_⟩:=I.loc
  refine .cons (by rw [I.ok.kind];decide) hf hn ?_ I.funs
  exact Heap.get?_none_of_le (Nat.le_trans I.ok.bsz I.ok.above)
theorem Inv.stkSub (I:Inv X pins σ H s):∀ b ∈ frs X.stack,b ∈ X.env.locals :: X.fs:=fun b hb=>by
 rcases I.ok.stk with e | ⟨e,hf⟩
 ·rw [e] at hb;exact List.mem_cons_of_mem _ hb
 ·rw [e] at hb
  unfold frs at hb
  rw [List.filterMap_cons,hf] at hb
  exact hb
theorem Inv.stkFree (I:Inv X pins σ H s):∀ b ∈ frs X.stack,H b=none:=fun b hb=>by
 rcases List.mem_cons.mp (I.stkSub b hb) with e | hb
 ·rw [e];exact I.free
 ·obtain ⟨_,o,ho,_⟩:=I.ok.funs.mem hb
  exact I.base.free b o ho (I.ok.frf b hb) fun z=>I.ok.exfs b z hb
theorem Inv.step {g':Array GenState} {t':Nat} {d':Drawn} {ch:List Addr} (I:Inv X pins σ H s)
  (hch:∀ b ∈ ch,(b ∈ X.ex\/X.s₀.heap.objs.size<=b)/\b ≠ X.env.locals/\(∀ x c,X.env.cells.lookup x=some c->c ≠ b)/\∀ p ∈ X.pn++pins,p.1 ≠ b)
  (keep:∀ b o,b ≠ X.env.locals->b ∉ X.fs->b ∉ ch->s.heap.get? b=some o->H b=none->h'.get? b=some o)
  (slot:∀ b o,b ≠ X.env.locals->b ∈ X.fs->b ∉ ch->s.heap.get? b=some o->H b=none->∃ sl,h'.get? b=some { o with slots:=sl }) (free:∀ b o,b ∉ ch->s.heap.get? b=some o->H b=none->H' b=none)
  (there:∀ b o,b ∉ ch->s.heap.get? b=some o->∃ o',h'.get? b=some o')
  (tups:∀ b xs,H b=some (.tup xs)->H' b=some (.tup xs)) (frzs:∀ b o u,H b=some (.frz o u)->H' b=some (.frz o u)) (tbls:∀ b ps,H b=some (.tbl ps)->∃ more,H' b=some (.tbl (ps++more)))
  (ns:∀ m,s.heap.Ns X.env.locals m->h'.Ns X.env.locals m) (hok:HOk X.prog X.w H' h') (hg:AllBare g') :
  Inv X pins σ H' { s with heap:=h',gens:=g',drawn:=d',toks:=t' }:=by
 have neL:∀ b o,X.s₀.heap.get? b=some o->b ≠ X.env.locals:=fun b o e=>Nat.ne_of_lt (Nat.lt_of_lt_of_le (Heap.lt_size e) I.ok.above)
 have neC:∀ b o,X.s₀.heap.get? b=some o->b ∉ X.ex->b ∉ ch:=fun b o e hx hb=>by
  rcases (hch b hb).1 with z | z
  ·exact hx z
  ·exact absurd (Nat.lt_of_lt_of_le (Heap.lt_size e) z) (Nat.lt_irrefl _)
 have cellK:∀ x c,X.env.cells.lookup x=some c->∀ v,s.heap.IsCell c v->h'.IsCell c v:=fun x c e v ⟨o,ho,hd⟩=>by
  have nch:c ∉ ch:=fun z=>(hch c z).2.2.1 x c e rfl
  by_cases hc:c ∈ X.fs
  ·obtain ⟨sl,q⟩:=slot c o (I.cne x c e) hc nch ho (I.freeC x c e)
   exact ⟨_,q,hd⟩
  ·exact ⟨o,keep c o (I.cne x c e) hc nch ho (I.freeC x c e),hd⟩
 refine ⟨I.ok,I.os,hg,⟨fun b o e n hb hx=>?_,fun b o e n hb hx=>?_,fun b o e n hx=>?_,fun b o e hx=>?_,fun b xs e=>tups b xs (I.base.tups b xs e),fun b o xs e=>frzs b o xs (I.base.frzs b o xs e),fun b ps e=>?_⟩,?_,fun x c e=>?_,?_,fun x c e=>?_,fun p hp=>?_,hok,I.len⟩
 ·exact keep b o (neL b o e) hb (neC b o e hx) (I.base.keep b o e n hb hx) (I.base.free b o e n hx)
 ·obtain ⟨sl,e1⟩:=I.base.slot b o e n hb hx
  obtain ⟨sl',e2⟩:=slot b _ (neL b o e) hb (neC b o e hx) e1 (I.base.free b o e n hx)
  exact ⟨sl',e2⟩
 ·obtain ⟨o',e1⟩:=I.base.there b o e hx
  exact free b o' (neC b o e hx) e1 (I.base.free b o e n hx)
 ·obtain ⟨o',e1⟩:=I.base.there b o e hx
  exact there b o' (neC b o e hx) e1
 ·obtain ⟨m1,e1⟩:=I.base.tbls b ps e
  obtain ⟨m2,e2⟩:=tbls b _ e1
  exact ⟨m1++m2,by rw [e2,Array.append_assoc]⟩
 ·obtain ⟨m,hn,hl⟩:=I.loc
  refine ⟨m,ns m hn,fun i x v e1 e2 e3=>?_⟩
  obtain ⟨u,r,l⟩:=hl i x v e1 e2 e3
  refine ⟨u,r,?_⟩
  rcases l with l | ⟨k,c,e,z⟩
  ·exact .inl l
  ·exact .inr ⟨k,c,e,cellK x c e _ z⟩
 ·obtain ⟨v,z⟩:=I.cell x c e
  exact ⟨v,cellK x c e v z⟩
 ·obtain ⟨m,⟨o,_,_,ho,_⟩,_⟩:=I.loc
  exact free _ o (fun z=>(hch _ z).2.1 rfl) ho I.free
 ·obtain ⟨v,o,ho,hd⟩:=I.cell x c e
  exact free c o (fun z=>(hch c z).2.2.1 x c e rfl) ho (I.freeC x c e)
 ·obtain ⟨e,n,ne,nf,d⟩:=I.pin p hp
  have nch:p.1 ∉ ch:=fun z=>(hch p.1 z).2.2.2 p hp rfl
  exact ⟨keep p.1 p.2 ne nf nch e n,free p.1 p.2 nch e n,ne,nf,d⟩
theorem Inv.un {t':Nat} (I:Inv X pins σ H s) (u:Un X.fs [] H H' s.heap h') (hok:HOk X.prog X.w H' h'):Inv X pins σ H' { s with heap:=h',toks:=t' }:=by
 obtain ⟨m,⟨o,es,ep,ho,r⟩,_⟩:=id I.loc
 obtain ⟨sl,hL⟩:=u.any ho I.free (by simp)
 exact I.step (g':=s.gens) (d':=s.drawn) (ch:=[]) (fun _ z=>nomatch z) (fun b o _ hb _ e n=>u.keep b o e n hb (by simp)) (fun b o _ hb _ e n=>u.slot b o e n hb (by simp)) (fun b o _ e n=>u.free b o e n (by simp)) (fun b o _ e=>u.there b o e (by simp)) u.tups u.frzs u.tbls (fun m' hm=>by
  obtain ⟨o',es',ep',ho',r'⟩:=hm
  rw [ho] at ho';cases ho'
  exact ⟨_,es',ep',hL,r'⟩) hok I.bare
theorem Inv.call {g':Array GenState} {t':Nat} {d':Drawn} {ch:List Addr} (I:Inv X pins σ H s) (u:Un (frs X.stack) ch H H' s.heap h') (hok:HOk X.prog X.w H' h') (hg:AllBare g')
  (hch:∀ b ∈ ch,(b ∈ X.ex\/X.s₀.heap.objs.size<=b)/\b ≠ X.env.locals/\(∀ x c,X.env.cells.lookup x=some c->c ≠ b)/\∀ p ∈ X.pn++pins,p.1 ≠ b) :
  Inv X pins σ H' { s with heap:=h',gens:=g',drawn:=d',toks:=t' }:=by
 obtain ⟨m,⟨o,es,ep,ho,r⟩,_⟩:=id I.loc
 obtain ⟨sl,hL⟩:=u.any ho I.free fun z=>(hch _ z).2.1 rfl
 exact I.step (ch:=ch) hch (fun b o hL hb hc e n=>u.keep b o e n (fun z=>(List.mem_cons.mp (I.stkSub b z)).elim hL hb) hc) (fun b o _ _ hc e n=>u.any e n hc) (fun b o hc e n=>u.free b o e n hc) (fun b o hc e=>u.there b o e hc) u.tups u.frzs u.tbls (fun m' hm=>by
  obtain ⟨o',es',ep',ho',r'⟩:=hm
  rw [ho] at ho';cases ho'
  exact ⟨_,es',ep',hL,r'⟩) hok hg
theorem Inv.turned {t':Nat} {it:Addr} (I:Inv X pins σ H s) (k:∀ b o,b ≠ it->s.heap.get? b=some o->h'.get? b=some o) (hn:H it=none) (hL:it ≠ X.env.locals)
  (h1:it ∈ X.ex\/X.s₀.heap.objs.size<=it) (h2:∀ x c,X.env.cells.lookup x=some c->c ≠ it) (h3:∀ p ∈ X.pn++pins,p.1 ≠ it):Inv X pins σ H { s with heap:=h',toks:=t' }:=by
 have nit:∀ b u,H b=some u->b ≠ it:=fun b u e z=>by rw [z,hn] at e;cases e
 refine I.step (g':=s.gens) (d':=s.drawn) (ch:=[it]) (fun b hb=>?_) (fun b o _ _ hc e _=>k b o (fun z=>hc (by simp [z])) e) (fun b o _ _ hc e _=>⟨o.slots,k b o (fun z=>hc (by simp [z])) e⟩) (fun _ _ _ _ n=>n)
  (fun b o hc e=>⟨o,k b o (fun z=>hc (by simp [z])) e⟩) (fun _ _ e=>e) (fun _ _ _ e=>e) (fun b ps e=>⟨#[],by rw [e];simp⟩) (fun m hm=>?_) (fun b u e=>?_) I.bare
 ·have e:b=it:=by simpa using hb
  subst e
  exact ⟨h1,hL,h2,h3⟩
 ·obtain ⟨o,es,ep,ho,r⟩:=hm
  exact ⟨o,es,ep,k _ o (Ne.symm hL) ho,r⟩
 ·refine (I.hok b u e).stay (fun c v hc q=>k c v ?_ q) (fun _ q=>q) fun _ _ q=>q
  rcases hc with z | z
  ·rw [z];exact nit b u e
  ·exact nit c _ z
theorem Inv.tok (I:Inv X pins σ H s) (t:Nat):Inv X pins σ H { s with toks:=t }:=I.un (h':=s.heap) (t':=t) Un.refl I.hok
theorem Inv.kept {t':Nat} (I:Inv X pins σ H s) (k:∀ b u,s.heap.get? b=some u->h'.get? b=some u):Inv X pins σ H { s with heap:=h',toks:=t' }:=I.un (Un.kept k) (I.hok.kept k)
theorem Inv.laid {a:Addr} {o:HO} {t':Nat} (I:Inv X pins σ H s) (k:∀ b u,s.heap.get? b=some u->h'.get? b=some u) (hp:s.heap.objs.size<=a) (new:ObjOk X.prog X.w (upd H a o) h' a o) :
  Inv X pins σ (upd H a o) { s with heap:=h',toks:=t' }:=I.un (Un.laid k hp (I.hok.fresh hp)) (I.hok.laid k hp new)
theorem Inv.write {x e:Addr} {o:HO} {t':Nat} (I:Inv X pins σ H s) (mu:Mut (H x)) (he:e=x\/H e=some (.own x)) (k:∀ b u,b ≠ e->s.heap.get? b=some u->h'.get? b=some u) (heo:∃ u,h'.get? e=some u)
  (new:ObjOk X.prog X.w (upd H x o) h' x o):Inv X pins σ (upd H x o) { s with heap:=h',toks:=t' }:=I.un (Un.write mu he k heo) (I.hok.write mu he k heo new)
theorem Inv.pins_of {pins':List (Addr × Obj)} (I:Inv X pins σ H s) (h:∀ p ∈ pins',s.heap.get? p.1=some p.2/\H p.1=none/\p.1 ≠ X.env.locals/\p.1 ∉ X.fs/\∀ v,p.2.data ≠ .cell v):Inv X pins' σ H s :=
 ⟨I.ok,I.os,I.bare,I.base,I.loc,I.cell,I.free,I.freeC,fun p hp=>(List.mem_append.mp hp).elim (fun z=>I.pin p (List.mem_append_left _ z)) (h p),I.hok,I.len⟩
theorem nodup_ix {N:List Str} (hN:N.Nodup) {i j:Nat} {x:Str} (a:N[i]?=some x) (b:N[j]?=some x):i=j:=by
 obtain ⟨h1,e1⟩:=List.getElem?_eq_some_iff.mp a
 obtain ⟨h2,e2⟩:=List.getElem?_eq_some_iff.mp b
 exact (List.getElem_inj hN).mp (e1.trans e2.symm)
theorem store_ok2 {M:Model} {A:Around} {E:Value->Shared->Prop} {i:Nat} {x:Str} {v:V} {u:Value} {Q:Unit->Shared->Prop} (I:Inv X pins σ H s) (hN:X.N.Nodup) (hi:X.N[i]?=some x) (hx:Loc X.env.scope x) (r:RelV v u)
  (h:∀ s',Inv X pins (σ.set i (some v)) H s'->(∃ a,Heap.SameBut a s.heap s'.heap/\(a=X.env.locals\/X.env.cells.lookup x=some a))->Q () s') (hf:X.fn x=true\/X.env.scope.names.lookup x=some .local:=by first | exact .inl rfl | exact .inr rfl | assumption):wpAny M A (storeName X.env x u) Q E s:=by
 obtain ⟨m,hn,hl⟩:=id I.loc
 have hcls:(X.env.scope.kind == .class || (X.env.scope.kind == .module && X.env.locals != X.env.globals))=false:=by rw [I.ok.kind];rfl
 have hiσ:i < σ.length:=by rw [I.len];exact (List.getElem?_eq_some_iff.mp hi).1
 have cne:=I.cne
 have tracked:∀ {a:Addr} {h':Heap},(∃ o,s.heap.get? a=some o/\H a=none)->Heap.SameBut a s.heap h'->HOk X.prog X.w H h':=fun {a h'} ha hs b ob e=>by
  obtain ⟨_,_,hfree⟩:=ha
  refine (I.hok b ob e).stay (fun c w' hc q=>(hs.2 c ?_).trans q) (fun _ q=>q) fun _ _ q=>q
  rintro rfl
  rcases hc with rfl | hc
  ·rw [hfree] at e;cases e
  ·rw [hfree] at hc;cases hc
 rcases hx with hk | hk
 ·refine wpAny_storeName_local hk hn (fun h' hn' hs=>?_) hcls
  obtain ⟨oL,_,_,hoL,_⟩:=id hn
  refine h _ ⟨I.ok,I.os,I.bare,⟨fun b o e n hb hx=>?_,fun b o e n hb hx=>?_,I.base.free,fun b o e hx=>?_,I.base.tups,I.base.frzs,I.base.tbls⟩,⟨_,hn',fun j y v' e1 e2 e3=>?_⟩,fun y c e=>?_,I.free,I.freeC,fun p hp=>?_,tracked ⟨oL,hoL,I.free⟩ hs,by simpa using I.len⟩ ⟨_,hs,.inl rfl⟩
  ·exact (hs.2 b (Nat.ne_of_lt (Nat.lt_of_lt_of_le (Heap.lt_size e) I.ok.above))).trans (I.base.keep b o e n hb hx)
  ·obtain ⟨sl,e1⟩:=I.base.slot b o e n hb hx
   exact ⟨sl,(hs.2 b (Nat.ne_of_lt (Nat.lt_of_lt_of_le (Heap.lt_size e) I.ok.above))).trans e1⟩
  ·obtain ⟨o',e1⟩:=I.base.there b o e hx
   exact ⟨o',(hs.2 b (Nat.ne_of_lt (Nat.lt_of_lt_of_le (Heap.lt_size e) I.ok.above))).trans e1⟩
  ·by_cases hj:j=i
   ·subst hj
    rw [hi] at e1;cases e1
    rw [List.getElem?_set_self hiσ] at e2
    cases e2
    exact ⟨u,r,.inl ⟨hk,by simp⟩⟩
   ·rw [List.getElem?_set_ne (Ne.symm hj)] at e2
    obtain ⟨u',r',q⟩:=hl j y v' e1 e2 e3
    refine ⟨u',r',?_⟩
    rcases q with ⟨k,e⟩ | ⟨k,c,e,z⟩
    ·refine .inl ⟨k,?_⟩
     have:y ≠ x:=fun e=>hj (nodup_ix hN e1 (e ▸ hi))
     simp [this,e]
    ·exact .inr ⟨k,c,e,z.sameBut hs (cne y c e)⟩
  ·obtain ⟨w',z⟩:=I.cell y c e
   exact ⟨w',z.sameBut hs (cne y c e)⟩
  ·obtain ⟨e,n,ne,nf,d⟩:=I.pin p hp
   exact ⟨(hs.2 p.1 ne).trans e,n,ne,nf,d⟩
 ·have hfn:X.fn x=true:=by
   rcases hf with z | z
   ·exact z
   ·rw [z] at hk;cases hk
  obtain ⟨c,hc⟩:=I.ok.has x (.inl hk)
  obtain ⟨w',z⟩:=I.cell x c hc
  refine wpAny_storeName_cell I.ok.kind hk hc z (fun h' hc' hs=>?_)
  obtain ⟨oc,hoc,hocd⟩:=id z
  refine h { s with heap:=h' } ⟨I.ok,I.os,I.bare,⟨fun b o e n hb hx=>?_,fun b o e n hb hx=>?_,I.base.free,fun b o e hx=>?_,I.base.tups,I.base.frzs,I.base.tbls⟩,⟨m,hn.sameBut hs (Ne.symm (cne x c hc)),fun j y v' e1 e2 e3=>?_⟩,fun y c' e=>?_,I.free,I.freeC,fun p hp=>?_,tracked ⟨oc,hoc,I.freeC x c hc⟩ hs,by simpa using I.len⟩ ⟨c,hs,.inr hc⟩
  ·exact (hs.2 b (Nat.ne_of_lt (Nat.lt_of_lt_of_le (Heap.lt_size e) (I.ok.cab x c hfn hc)))).trans (I.base.keep b o e n hb hx)
  ·obtain ⟨sl,e1⟩:=I.base.slot b o e n hb hx
   exact ⟨sl,(hs.2 b (Nat.ne_of_lt (Nat.lt_of_lt_of_le (Heap.lt_size e) (I.ok.cab x c hfn hc)))).trans e1⟩
  ·obtain ⟨o',e1⟩:=I.base.there b o e hx
   exact ⟨o',(hs.2 b (Nat.ne_of_lt (Nat.lt_of_lt_of_le (Heap.lt_size e) (I.ok.cab x c hfn hc)))).trans e1⟩
  ·by_cases hj:j=i
   ·subst hj
    rw [hi] at e1;cases e1
    rw [List.getElem?_set_self hiσ] at e2
    cases e2
    exact ⟨u,r,.inr ⟨.inl hk,c,hc,hc'⟩⟩
   ·rw [List.getElem?_set_ne (Ne.symm hj)] at e2
    obtain ⟨u',r',q⟩:=hl j y v' e1 e2 e3
    refine ⟨u',r',?_⟩
    rcases q with q | ⟨k,c',e,z'⟩
    ·exact .inl q
    ·refine .inr ⟨k,c',e,z'.sameBut hs ?_⟩
     rintro rfl
     exact hj (nodup_ix hN e1 (I.ok.inj _ _ _ e hc ▸ hi))
  ·by_cases hcc:c'=c
   ·subst hcc;exact ⟨_,hc'⟩
   ·obtain ⟨w2,z2⟩:=I.cell y c' e
    exact ⟨w2,z2.sameBut hs hcc⟩
  ·obtain ⟨e,n,ne,nf,d⟩:=I.pin p hp
   refine ⟨(hs.2 p.1 ?_).trans e,n,ne,nf,d⟩
   intro q
   rw [q,hoc] at e
   have q':oc=p.2:=Option.some.inj e
   exact d w' (by rw [<- q'];exact hocd)
theorem store_ok {M:Model} {A:Around} {E:Value->Shared->Prop} {i:Nat} {x:Str} {v:V} {u:Value} {Q:Unit->Shared->Prop} (I:Inv X pins σ H s) (hN:X.N.Nodup) (hi:X.N[i]?=some x) (hx:Loc X.env.scope x) (r:RelV v u)
  (h:∀ s',Inv X pins (σ.set i (some v)) H s'->Q () s') (hf:X.fn x=true\/X.env.scope.names.lookup x=some .local:=by first | exact .inl rfl | exact .inr rfl | assumption):wpAny M A (storeName X.env x u) Q E s :=
 store_ok2 I hN hi hx r (fun s' I' _=>h s' I') hf
theorem Inv.call' {s':Shared} {ch:List Addr} (I:Inv X pins σ H s) (ho:s'.os=s.os) (u:Un (frs X.stack) ch H H' s.heap s'.heap) (hok:HOk X.prog X.w H' s'.heap) (hg:AllBare s'.gens)
  (hch:∀ b ∈ ch,(b ∈ X.ex\/X.s₀.heap.objs.size<=b)/\b ≠ X.env.locals/\(∀ x c,X.env.cells.lookup x=some c->c ≠ b)/\∀ p ∈ X.pn++pins,p.1 ≠ b):Inv X pins σ H' s':=by
 obtain ⟨h',g',d',t',o'⟩:=s'
 have e:o'=s.os:=ho
 subst e
 exact I.call (g':=g') (t':=t') (d':=d') u hok hg hch
end
abbrev XK:=Value->Option Addr->Hp->Prop
abbrev St:=List (Option V)
abbrev VK:=V->Hp->Prop
abbrev TE:=St->Hp->VK->Prop
abbrev TT:=St->Hp->(Bool->Hp->Prop)->Prop
abbrev TA:=St->Hp->(List V->Hp->Prop)->Prop
structure Ends where
 nx:St->Hp->Prop
 rt:VK
 bk:St->Hp->Prop:=fun _ _=>False
 ct:St->Hp->Prop:=fun _ _=>False
abbrev TS:=Ends->St->Hp->Prop
def EP (X:Cx) (pins:List (Addr × Obj)) (σ:St) (Q:VK) (u:Value) (s':Shared):Prop:=∃ v H',Inv X pins σ H' s'/\RelV v u/\Q v H'
def TP (X:Cx) (pins:List (Addr × Obj)) (σ:St) (Q:Bool->Hp->Prop) (b:Bool) (s':Shared):Prop:=∃ H',Inv X pins σ H' s'/\Q b H'
def AP (X:Cx) (pins:List (Addr × Obj)) (σ:St) (Q:List V->Hp->Prop) (us:List Value) (s':Shared):Prop:=∃ vs H',Inv X pins σ H' s'/\Vals vs us/\Q vs H'
def SP (X:Cx) (pins:List (Addr × Obj)) (D:Ends) (f:Flow) (s':Shared):Prop :=
 match f with
 | .next=>∃ σ' H',Inv X pins σ' H' s'/\D.nx σ' H'
 | .brk=>∃ σ' H',Inv X pins σ' H' s'/\D.bk σ' H'
 | .cont=>∃ σ' H',Inv X pins σ' H' s'/\D.ct σ' H'
 | .ret u=>∃ v σ' H',Inv X pins σ' H' s'/\RelV v u/\D.rt v H'
def PE (X:Cx) (e:Expr) (t:TE):Prop :=
 ∀ (pins:List (Addr × Obj)) (s:Shared) (σ:St) (H:Hp) (Q:VK),Inv X pins σ H s->t σ H Q->wpAny (model X.prog X.w) X.A (eval e X.env) (EP X pins σ Q) X.xe s
def PT (X:Cx) (e:Expr) (t:TT):Prop :=
 ∀ (pins:List (Addr × Obj)) (s:Shared) (σ:St) (H:Hp) (Q:Bool->Hp->Prop),Inv X pins σ H s->t σ H Q->wpAny (model X.prog X.w) X.A (isTrue e X.env (eval e X.env)) (TP X pins σ Q) X.xe s
def PW (X:Cx) (e:Expr) (t:TT):Prop :=
 ∀ (whole:Sem Value) (pins:List (Addr × Obj)) (s:Shared) (σ:St) (H:Hp) (Q:Bool->Hp->Prop),Inv X pins σ H s->t σ H Q->wpAny (model X.prog X.w) X.A (isTrue e X.env whole) (TP X pins σ Q) X.xe s
theorem PW.pt {X:Cx} {e:Expr} {t:TT} (h:PW X e t):PT X e t:=h _
def PA (X:Cx) (es:List Expr) (t:TA):Prop :=
 ∀ (pos:Pos) (pins:List (Addr × Obj)) (s:Shared) (σ:St) (H:Hp) (Q:List V->Hp->Prop),Inv X pins σ H s->t σ H Q->wpAny (model X.prog X.w) X.A (spliced (backTo pos (starEach es X.env))) (AP X pins σ Q) X.xe s
def PS (X:Cx) (st:Stmt) (t:TS):Prop :=
 ∀ (pins:List (Addr × Obj)) (s:Shared) (σ:St) (H:Hp) (D:Ends),Inv X pins σ H s->t D σ H->wpAny (model X.prog X.w) X.A (exec st X.env) (SP X pins D) X.xe s
def PSs (X:Cx) (st:List Stmt) (t:TS):Prop :=
 ∀ (pins:List (Addr × Obj)) (s:Shared) (σ:St) (H:Hp) (D:Ends),Inv X pins σ H s->t D σ H->wpAny (model X.prog X.w) X.A (execs st X.env) (SP X pins D) X.xe s
theorem thn {α:Type} {t:Sem α} {Q Q':α->Shared->Prop} {M:Model} {A:Around} {E:Value->Shared->Prop} {s:Shared} (h:wpAny M A t Q E s) (hQ:∀ a s,Q a s->Q' a s):wpAny M A t Q' E s:=wpAny_mono h hQ fun _ _ x=>x
end L2
namespace L2
open PySem PySem.Spec PyProof.Rows
section
variable {X:Cx}
def tVar (i:Nat):TE:=fun σ H Q=>∃ v,σ[i]?=some (some v)/\Q v H
def tC (v:V):TE:=fun _ H Q=>Q v H
theorem pe_var {i:Nat} {x:Str} {pos:Pos} (hN:X.N[i]?=some x) (hv:Vis X.env.scope x) (hd:(x == ("__debug__" : Str))=false:=by decide) (hcd:(x == ("__classdict__" : Str))=false:=by decide):PE X (.Name x pos) (tVar i):=by
 intro pins s σ H Q I h
 obtain ⟨v,e,h⟩:=h
 obtain ⟨m,hn,hl⟩:=I.loc
 obtain ⟨u,r,l⟩:=hl i x v hN e hv
 have fin:EP X pins σ Q u s:=⟨v,H,I,r,h⟩
 rcases l with ⟨hk,hm⟩ | ⟨hk,c,hc,hcell⟩
 ·exact wpAny_Name (wpAny_loadName_local I.ok.kind hk hn hm fin) hd
 ·rcases hk with hk | hk
  ·exact wpAny_Name (wpAny_loadName_cell I.ok.kind hk hc hcell fin) hd
  ·exact wpAny_Name (wpAny_loadName_free I.ok.kind hk hc hcell fin hcd) hd
theorem pe_int {i j pos}:PE X (.Constant (.int i) j pos) (tC (.int i)):=fun _ _ _ H _ I h=>wpAny_Constant_int ⟨.int i,H,I.tok _,⟨_,rfl⟩,h⟩
theorem pe_bl {b j pos}:PE X (.Constant (.bool b) j pos) (tC (.bl b)):=fun _ _ _ H _ I h=>Constant_bool ⟨.bl b,H,I,rfl,h⟩
theorem pe_non {j pos}:PE X (.Constant .none j pos) (tC .non):=fun _ _ _ H _ I h=>Constant_none ⟨.non,H,I,rfl,h⟩
theorem pe_str {x j pos}:PE X (.Constant (.str x) j pos) (tC (.str x)):=fun _ _ _ H _ I h=>Calls.Constant_str ⟨.str x,H,I.tok _,⟨_,rfl⟩,h⟩
def Gl (X:Cx) (x:Str):Prop:=X.env.kindOf x=some .globalImplicit
theorem ld_glob {E:Value->Shared->Prop} {pins:List (Addr × Obj)} {s:Shared} {σ:St} {H:Hp} {x:Str} {u:Value} {pos:Pos} {Q:Value->Shared->Prop} (I:Inv X pins σ H s) (hg:Gl X x) (hm:X.mg x=some u) (h:Q u s)
  (hd:(x == ("__debug__" : Str))=false:=by decide):wpAny (model X.prog X.w) X.A (eval (.Name x pos) X.env) Q E s :=
 Calls.Name_function_global I.ok.kind hg (Calls.loadGlobal_global (by rw [I.ok.glob];exact I.mod.glob.keeps I.bk) hm h) hd
theorem ld_blt {E:Value->Shared->Prop} {pins:List (Addr × Obj)} {s:Shared} {σ:St} {H:Hp} {x:Str} {u:Value} {pos:Pos} {Q:Value->Shared->Prop} (I:Inv X pins σ H s) (hg:Gl X x) (hm:X.mg x=none) (hv:bootBuiltins x=some u) (h:Q u s)
  (hn:x ≠ "__name__" := by decide) (hd:(x == ("__debug__" : Str))=false:=by decide):wpAny (model X.prog X.w) X.A (eval (.Name x pos) X.env) Q E s:=by
 obtain ⟨mb,h1,h2⟩:=I.mod.blt
 exact Calls.Name_function_global I.ok.kind hg (Calls.loadGlobal_builtin (by rw [I.ok.glob];exact I.mod.glob.keeps I.bk) hm (by rw [I.ok.blt];exact h1.keeps I.bk) ((h2 x hn).trans hv) h) hd
theorem pe_glob {x:Str} {v:V} {u:Value} {pos:Pos} (hg:Gl X x) (hm:X.mg x=some u) (r:RelV v u) (hd:(x == ("__debug__" : Str))=false:=by decide):PE X (.Name x pos) (tC v) :=
 fun _ _ _ H _ I h=>ld_glob I hg hm ⟨v,H,I,r,h⟩ hd
theorem pe_bltn {x:Str} {v:V} {u:Value} {pos:Pos} (hg:Gl X x) (hm:X.mg x=none) (hv:bootBuiltins x=some u) (r:RelV v u) (hn:x ≠ "__name__" := by decide) (hd:(x == ("__debug__" : Str))=false:=by decide):PE X (.Name x pos) (tC v) :=
 fun _ _ _ H _ I h=>ld_blt I hg hm hv ⟨v,H,I,r,h⟩ hn hd
variable {a b:Expr} {ta tb:TE} {pos:Pos}
def tB (t:TE):TT:=fun σ H Q=>t σ H fun x H1=>∃ c,x=.bl c/\Q c H1
theorem pt_val {e:Expr} {t:TE} (h:PE X e t) (he:∀ whole,isTrue e X.env whole=(do let v <- whole;standAt e.pos;holding [v] (truthy v)):=by intro _;rfl):PT X e (tB t):=by
 intro pins s σ H Q I hw
 refine isTrue_plain (thn (h pins s σ H _ I hw) fun v s1 ⟨x,H1,I1,r1,q1⟩=>?_) (he _)
 obtain ⟨d,rfl,q⟩:=q1
 cases r1
 exact wpAny_truthy_bool ⟨H1,I1,q⟩
variable {tA tB':TT} {rest:List Expr}
def tAnd (t u:TT):TT:=fun σ H Q=>t σ H fun c H1=>if c=true then u σ H1 Q else Q false H1
def tOr (t u:TT):TT:=fun σ H Q=>t σ H fun c H1=>if c=true then Q true H1 else u σ H1 Q
def tNot (t:TT):TT:=fun σ H Q=>t σ H fun c H1=>Q (!c) H1
theorem pw_and1 (ha:PT X a tA):PW X (.BoolOp .And [a] pos) tA:=by
 intro wh pins s σ H Q I h
 refine isTrue_and (thn (ha pins s σ H Q I h) fun c s1 e=>?_)
 cases c with
 | true=>exact isTrue_and_nil e
 | false=>exact e
theorem pw_or1 (ha:PT X a tA):PW X (.BoolOp .Or [a] pos) tA:=by
 intro wh pins s σ H Q I h
 refine isTrue_or (thn (ha pins s σ H Q I h) fun c s1 e=>?_)
 cases c with
 | false=>exact isTrue_or_nil e
 | true=>exact e
theorem pw_and (ha:PT X a tA) (hb:PW X (.BoolOp .And (b :: rest) pos) tB'):PW X (.BoolOp .And (a :: b :: rest) pos) (tAnd tA tB'):=by
 intro wh pins s σ H Q I h
 refine isTrue_and (thn (ha pins s σ H _ I h) fun c s1 ⟨H1,I1,q1⟩=>?_)
 cases c with
 | true=>exact hb wh pins s1 σ H1 Q I1 q1
 | false=>exact ⟨H1,I1,q1⟩
theorem pw_or (ha:PT X a tA) (hb:PW X (.BoolOp .Or (b :: rest) pos) tB'):PW X (.BoolOp .Or (a :: b :: rest) pos) (tOr tA tB'):=by
 intro wh pins s σ H Q I h
 refine isTrue_or (thn (ha pins s σ H _ I h) fun c s1 ⟨H1,I1,q1⟩=>?_)
 cases c with
 | true=>exact ⟨H1,I1,q1⟩
 | false=>exact hb wh pins s1 σ H1 Q I1 q1
theorem pt_not (ha:PT X a tA):PT X (.UnaryOp .Not a pos) (tNot tA):=by
 intro pins s σ H Q I h
 exact isTrue_not (ha pins s σ H (fun c H1=>Q (!c) H1) I h)
def tAndV (ta tb:TE):TE:=fun σ H Q=>ta σ H fun x H1=>∃ c,x=.bl c/\if c=true then tb σ H1 Q else Q (.bl false) H1
def tOrV (ta tb:TE):TE:=fun σ H Q=>ta σ H fun x H1=>∃ c,x=.bl c/\if c=true then Q (.bl true) H1 else tb σ H1 Q
def tNotV (ta:TE):TE:=fun σ H Q=>ta σ H fun x H1=>∃ c,x=.bl c/\Q (.bl (!c)) H1
theorem pe_one {op} {t:TE} (h:PE X a t):PE X (.BoolOp op [a] pos) t:=fun pins s σ H Q I hw=>BoolOp_one (h pins s σ H Q I hw)
theorem pe_and (ha:PE X a ta) (hb:PE X (.BoolOp .And (b :: rest) pos) tb):PE X (.BoolOp .And (a :: b :: rest) pos) (tAndV ta tb):=by
 intro pins s σ H Q I h
 refine BoolOp_and (thn (ha pins s σ H _ I h) fun v s1 ⟨x,H1,I1,r1,q1⟩=>?_)
 obtain ⟨c,rfl,q1⟩:=q1
 cases r1
 refine wpAny_truthy_bool ?_
 cases c with
 | true=>exact hb pins s1 σ H1 Q I1 q1
 | false=>exact ⟨.bl false,H1,I1,rfl,q1⟩
theorem pe_or (ha:PE X a ta) (hb:PE X (.BoolOp .Or (b :: rest) pos) tb):PE X (.BoolOp .Or (a :: b :: rest) pos) (tOrV ta tb):=by
 intro pins s σ H Q I h
 refine BoolOp_or (thn (ha pins s σ H _ I h) fun v s1 ⟨x,H1,I1,r1,q1⟩=>?_)
 obtain ⟨c,rfl,q1⟩:=q1
 cases r1
 refine wpAny_truthy_bool ?_
 cases c with
 | false=>exact hb pins s1 σ H1 Q I1 q1
 | true=>exact ⟨.bl true,H1,I1,rfl,q1⟩
theorem pe_not (ha:PE X a ta):PE X (.UnaryOp .Not a pos) (tNotV ta):=by
 intro pins s σ H Q I h
 refine UnaryOp_ (thn (ha pins s σ H _ I h) fun v s1 ⟨x,H1,I1,r1,q1⟩=>?_)
 obtain ⟨c,rfl,q1⟩:=q1
 cases r1
 exact not_of (wpAny_truthy_bool ⟨.bl (!c),H1,I1,rfl,q1⟩)
def tIf (t:TT) (ta tb:TE):TE:=fun σ H Q=>t σ H fun c H1=>if c=true then ta σ H1 Q else tb σ H1 Q
theorem pe_ifExp {c:Expr} (hc:PT X c tA) (ha:PE X a ta) (hb:PE X b tb):PE X (.IfExp c a b pos) (tIf tA ta tb):=by
 intro pins s σ H Q I h
 refine wpAny_IfExp (thn (hc pins s σ H _ I h) fun d s1 ⟨H1,I1,q1⟩=>?_)
 cases d with
 | true=>exact ha pins s1 σ H1 Q I1 q1
 | false=>exact hb pins s1 σ H1 Q I1 q1
end
end L2
namespace L2
open PySem PySem.Spec PyProof.Rows
def SqL (K:PySem.W.Frag) (H:Hp) (a:Addr) (xs:List V):Prop :=
 Rd H a (.lst xs) \/
  ∃ (o:Obj) (its:Array Value) (n:Nat),K.lookup a=some o/\o.cls=.type "list"/\o.dict=none/\o.data=.seq its n/\its.size<=sizeLine/\Vals xs its.toList
def SqT (K:PySem.W.Frag) (H:Hp) (a:Addr) (xs:List V):Prop :=
 Rd H a (.tup xs) \/
  ∃ (o:Obj) (its:Array Value) (n:Nat),K.lookup a=some o/\o.cls=.type "tuple"/\o.data=.seq its n/\its.size<=sizeLine/\Vals xs its.toList
def absV:Value->Option V
 | .none=>some .non
 | .bool b=>some (.bl b)
 | .int i _=>some (.int i)
 | .str x _=>some (.str x)
 | .bytes b _=>some (.byt b)
 | .float b _=>some (.flt b)
 | .ref a=>some (.ref a)
 | .type n=>some (.ty n)
 | _=>none
theorem RelV.abs {x:V} {u:Value} (r:RelV x u):absV u=some x:=by
 cases x with
 | non=>cases r;rfl
 | bl _=>cases r;rfl
 | int _=>obtain ⟨t,rfl⟩:=r;rfl
 | str _=>obtain ⟨t,rfl⟩:=r;rfl
 | byt _=>obtain ⟨t,rfl⟩:=r;rfl
 | flt _=>obtain ⟨t,rfl⟩:=r;rfl
 | ref _=>cases r;rfl
 | ty _=>cases r;rfl
theorem RelV.inj {x y:V} {u:Value} (r:RelV x u) (q:RelV y u):x=y:=Option.some.inj (r.abs.symm.trans q.abs)
theorem Vals.inj:∀ {xs ys:List V} {us:List Value},Vals xs us->Vals ys us->xs=ys
 | _,_,_,.nil,.nil=>rfl
 | _,_,_,.cons r t,.cons r' t'=>by rw [r.inj r',Vals.inj t t']
section
variable {X:Cx} {pins:List (Addr × Obj)} {σ:St} {H:Hp} {s:Shared} {a:Addr} {xs ys:List V}
theorem SqL.of {K:PySem.W.Frag} (h:H a=some (.lst xs)):SqL K H a xs:=.inl (.inl h)
theorem SqT.of {K:PySem.W.Frag} (h:H a=some (.tup xs)):SqT K H a xs:=.inl (.inl h)
theorem Inv.list (I:Inv X pins σ H s) (h:SqL X.K H a xs):∃ its:List Value,Vals xs its/\PlainL s.heap a its.toArray/\xs.length<=sizeLine:=by
 rcases h with h | ⟨o,its,n,hk,hc,hd,hs,hz,r⟩
 ·obtain ⟨z,its,n,r,e⟩:=h.ok I.hok
  exact ⟨its,r,⟨_,n,e,rfl,rfl,rfl⟩,z⟩
 ·refine ⟨its.toList,r,⟨o,n,I.kIn a o hk,hc,hd,by simpa using hs⟩,?_⟩
  have e:=r.length
  simp only [Array.length_toList] at e
  omega
theorem Inv.tuple (I:Inv X pins σ H s) (h:SqT X.K H a xs):∃ its:List Value,Vals xs its/\IsTup s.heap a its.toArray/\xs.length<=sizeLine:=by
 rcases h with h | ⟨o,its,n,hk,hc,hs,hz,r⟩
 ·obtain ⟨z,its,r,p⟩:=h.ok I.hok
  exact ⟨its,r,p,z⟩
 ·refine ⟨its.toList,r,⟨o,I.kIn a o hk,hc,n,by simpa using hs⟩,?_⟩
  have e:=r.length
  simp only [Array.length_toList] at e
  omega
theorem Inv.list_inj (I:Inv X pins σ H s) (h:SqL X.K H a xs) (h':SqL X.K H a ys):xs=ys:=by
 obtain ⟨its,r,⟨o,n,e,_,_,d⟩,_⟩:=I.list h
 obtain ⟨its',r',⟨o',n',e',_,_,d'⟩,_⟩:=I.list h'
 rw [e] at e';cases e'
 rw [d] at d'
 injection d' with d1 _
 have:its=its':=by simpa using congrArg Array.toList d1
 subst this
 exact r.inj r'
theorem Inv.tuple_inj (I:Inv X pins σ H s) (h:SqT X.K H a xs) (h':SqT X.K H a ys):xs=ys:=by
 obtain ⟨its,r,⟨o,e,_,n,d⟩,_⟩:=I.tuple h
 obtain ⟨its',r',⟨o',e',_,n',d'⟩,_⟩:=I.tuple h'
 rw [e] at e';cases e'
 rw [d] at d'
 injection d' with d1 _
 have:its=its':=by simpa using congrArg Array.toList d1
 subst this
 exact r.inj r'
end
abbrev Cx.wish (X:Cx) (E:Value->Shared->Prop):Cx:={ X with xe:=E }
abbrev Cx.nox (X:Cx):Cx:=X.wish fun _ _=>False
theorem Cx.Ok.wish {X:Cx} (ok:X.Ok) (E:Value->Shared->Prop):(X.wish E).Ok :=
 ⟨ok.mod,ok.kind,ok.glob,ok.blt,ok.above,ok.inj,ok.has,ok.cab,ok.hd,ok.frames,ok.stk,ok.exf,ok.bs,ok.bsz,ok.noex,ok.exfs,ok.funs,ok.frf⟩
theorem Cx.Ok.unwish {X:Cx} {E:Value->Shared->Prop} (ok:(X.wish E).Ok):X.Ok :=
 ⟨ok.mod,ok.kind,ok.glob,ok.blt,ok.above,ok.inj,ok.has,ok.cab,ok.hd,ok.frames,ok.stk,ok.exf,ok.bs,ok.bsz,ok.noex,ok.exfs,ok.funs,ok.frf⟩
section
variable {X:Cx} {pins:List (Addr × Obj)} {σ:St} {H:Hp} {s:Shared} {E:Value->Shared->Prop}
theorem Inv.wish (I:Inv X pins σ H s) (E:Value->Shared->Prop):Inv (X.wish E) pins σ H s:=⟨I.ok.wish E,I.os,I.bare,I.base,I.loc,I.cell,I.free,I.freeC,I.pin,I.hok,I.len⟩
theorem Inv.unwish (I:Inv (X.wish E) pins σ H s):Inv X pins σ H s:=⟨I.ok.unwish,I.os,I.bare,I.base,I.loc,I.cell,I.free,I.freeC,I.pin,I.hok,I.len⟩
theorem SP.unwish {D:Ends} {f:Flow} {s':Shared} (h:SP (X.wish E) pins D f s'):SP X pins D f s':=by
 cases f with
 | next=>obtain ⟨σ',H',I,q⟩:=h;exact ⟨σ',H',I.unwish,q⟩
 | brk=>obtain ⟨σ',H',I,q⟩:=h;exact ⟨σ',H',I.unwish,q⟩
 | cont=>obtain ⟨σ',H',I,q⟩:=h;exact ⟨σ',H',I.unwish,q⟩
 | ret u=>obtain ⟨v,σ',H',I,r,q⟩:=h;exact ⟨v,σ',H',I.unwish,r,q⟩
end
section
variable {X:Cx} {st:Stmt} {rest:List Stmt} {t u:TS} {e:Expr} {te:TE} {pos:Pos}
def tNext:TS:=fun D σ H=>D.nx σ H
def tSeq (t u:TS):TS:=fun D σ H=>t { D with nx:=u D } σ H
theorem pss_nil:PSs X [] tNext:=fun _ _ σ H _ I h=>wpAny_execs_nil ⟨σ,H,I,h⟩
theorem pss_cons (h1:PS X st t) (h2:PSs X rest u):PSs X (st :: rest) (tSeq t u):=by
 intro pins s σ H D I h
 refine wpAny_execs_cons (thn (h1 pins s σ H { D with nx:=u D } I h) fun f s1 q=>?_)
 cases f with
 | next =>
  obtain ⟨σ',H',I',q⟩:=q
  exact h2 pins s1 σ' H' D I' q
 | ret v=>exact q
 | brk=>exact q
 | cont=>exact q
theorem pss_one (h1:PS X st t):PSs X [st] t:=by
 intro pins s σ H D I h
 refine wpAny_execs_cons (thn (h1 pins s σ H D I h) fun f s1 q=>?_)
 cases f with
 | next=>exact wpAny_execs_nil q
 | ret v=>exact q
 | brk=>exact q
 | cont=>exact q
theorem Inv.quiet {pins:List (Addr × Obj)} {σ:St} {H:Hp} {s:Shared} (I:Inv X pins σ H s):interactive X.env=false:=by simp [interactive,I.ok.kind]
def tDrop (te:TE):TS:=fun D σ H=>te σ H fun _ H1=>D.nx σ H1
theorem ps_expr (he:PE X e te) (hs:swapsWith e none pos.line X.env=pure false:=by rfl):PS X (.Expr e pos) (tDrop te):=by
 intro pins s σ H D I h
 exact wpAny_Expr_any (thn (he pins s σ H _ I h) fun v s1 ⟨x,H1,I1,r1,q1⟩=>⟨σ,H1,I1,q1⟩) I.quiet hs
def tRet (te:TE):TS:=fun D σ H=>te σ H D.rt
theorem ps_ret (he:PE X e te):PS X (.Return (some e) pos) (tRet te):=by
 intro pins s σ H D I h
 exact wpAny_Return_some (thn (he pins s σ H _ I h) fun v s1 ⟨x,H1,I1,r1,q1⟩=>⟨x,σ,H1,I1,r1,q1⟩)
def tIfS (c:TT) (t u:TS):TS:=fun D σ H=>c σ H fun b H1=>if b=true then t D σ H1 else u D σ H1
theorem ps_if {c:Expr} {a b:List Stmt} {tc:TT} (hc:PT X c tc) (ha:PSs X a t) (hb:PSs X b u):PS X (.If c a b pos) (tIfS tc t u):=by
 intro pins s σ H D I h
 refine wpAny_If (thn (hc pins s σ H _ I h) fun d s1 ⟨H1,I1,q1⟩=>?_)
 cases d with
 | true=>exact ha pins s1 σ H1 D I1 q1
 | false=>exact hb pins s1 σ H1 D I1 q1
end
abbrev TG:=V->St->Hp->(St->Hp->Prop)->Prop
abbrev TGs:=List V->St->Hp->(St->Hp->Prop)->Prop
def PG (X:Cx) (target:Expr) (t:TG):Prop :=
 ∀ (pins:List (Addr × Obj)) (s:Shared) (σ:St) (H:Hp) (v:V) (u:Value) (Q:St->Hp->Prop),Inv X pins σ H s->RelV v u->t v σ H Q ->
  wpAny (model X.prog X.w) X.A (assign target X.env u) (fun _ s'=>∃ σ' H',Inv X pins σ' H' s'/\Q σ' H') X.xe s
def PGs (X:Cx) (ts:List Expr) (t:TGs):Prop :=
 ∀ (pins:List (Addr × Obj)) (s:Shared) (σ:St) (H:Hp) (vs:List V) (us:List Value) (Q:St->Hp->Prop),Inv X pins σ H s->Vals vs us->t vs σ H Q ->
  wpAny (model X.prog X.w) X.A (assignInOrder ((assignEach ts X.env).map (·.2)) us) (fun _ s'=>∃ σ' H',Inv X pins σ' H' s'/\Q σ' H') X.xe s
abbrev TSet:=V->V->V->Hp->(Hp->Prop)->Prop
def PSet (X:Cx) (t:TSet):Prop :=
 ∀ (pins:List (Addr × Obj)) (s:Shared) (σ:St) (H:Hp) (o i v:V) (ov iv u:Value) (Q:Hp->Prop),Inv X pins σ H s->RelV o ov->RelV i iv->RelV v u->t o i v H Q ->
  wpAny (model X.prog X.w) X.A (setItem ov iv u) (fun _ s'=>∃ H',Inv X pins σ H' s'/\Q H') X.xe s
section
variable {X:Cx} {pos:Pos}
def gName (i:Nat):TG:=fun v σ H Q=>Q (σ.set i (some v)) H
theorem pg_name {i:Nat} {x:Str} (hN:X.N.Nodup) (hi:X.N[i]?=some x) (hx:Loc X.env.scope x) (hf:X.fn x=true\/X.env.scope.names.lookup x=some .local:=by first | exact .inl rfl | exact .inr rfl | assumption):PG X (.Name x pos) (gName i):=by
 intro pins s σ H v u Q I r h
 exact wpAny_assign_Name (store_ok I hN hi hx r (fun s' I'=>⟨_,H,I',h⟩) hf)
def gNil:TGs:=fun vs σ H Q=>vs=[]/\Q σ H
def gCons (t:TG) (u:TGs):TGs:=fun vs σ H Q=>∃ v r,vs=v :: r/\t v σ H fun σ' H'=>u r σ' H' Q
theorem pgs_nil:PGs X [] gNil:=by
 intro pins s σ H vs us Q I r h
 obtain ⟨e,h⟩:=h
 subst e
 cases r
 exact assignInOrder_nil ⟨σ,H,I,h⟩
theorem pgs_cons {e:Expr} {es:List Expr} {t:TG} {u:TGs} (h1:PG X e t) (h2:PGs X es u)
  (hs:(assignEach (e :: es) X.env).map (·.2)=assign e X.env :: (assignEach es X.env).map (·.2):=by rfl):PGs X (e :: es) (gCons t u):=by
 intro pins s σ H vs us Q I r h
 obtain ⟨v,vr,e1,h⟩:=h
 subst e1
 cases r with
 | cons r rr =>
  rw [hs]
  refine assignInOrder_cons (thn (h1 pins s σ H _ _ _ I r h) fun _ s1 ⟨σ1,H1,I1,q1⟩=>?_)
  exact h2 pins s1 σ1 H1 _ _ Q I1 rr q1
def gTup (K:PySem.W.Frag) (n:Nat) (t:TGs):TG:=fun v σ H Q=>∃ a xs,v=.ref a/\SqT K H a xs/\xs.length=n/\t xs σ H Q
theorem pg_tup {es:List Expr} {k:Nat} {t:TGs} {n:Nat} (hc:X.calm=true) (h:PGs X es t)
  (hn:(assignEach es X.env).length=n:=by rfl) (hst:(assignEach es X.env).findIdx? (·.1)=none:=by rfl):PG X (.Tuple es k pos) (gTup X.K n t):=by
 intro pins s σ H v u Q I r hw
 obtain ⟨a,xs,e1,hq,hl,hw⟩:=hw
 subst e1
 cases r
 obtain ⟨its,rv,ht,hz⟩:=I.tuple hq
 refine assign_Tuple_tuple (I.ok.hd hc) ht (by simp [hn,<- hl,rv.length]) hst fun h' hx=>?_
 have I1:Inv X pins σ H { s with heap:=h' }:=I.kept (t':=s.toks) fun b o e=>hx b o (Nat.ne_of_lt (Heap.lt_size e)) e
 exact h pins _ σ H xs _ Q I1 (by simpa using rv) hw
def gSub (to ti:TE) (t:TSet):TG:=fun v σ H Q=>to σ H fun o H1=>ti σ H1 fun i H2=>t o i v H2 fun H3=>Q σ H3
theorem pg_sub {o i:Expr} {to ti:TE} {t:TSet} (ho:PE X o to) (hi:PE X i ti) (hs:PSet X t)
  (ha:∀ v,assign (.Subscript o i pos) X.env v=(do
   let ov <- holding [v] (eval o X.env)
   let iv <- holding [v,ov] (eval i X.env)
   standAt pos
   holding [v,ov,iv] (setItem ov iv v)
   release [v,ov,iv] []):=by intro _;rfl):PG X (.Subscript o i pos) (gSub to ti t):=by
 intro pins s σ H v u Q I r h
 rw [ha]
 refine wpAny_bind (wpAny_holding (thn (ho pins s σ H _ I h) fun ov s1 ⟨x,H1,I1,r1,q1⟩=>?_))
 refine wpAny_bind (wpAny_holding (thn (hi pins s1 σ H1 _ I1 q1) fun iv s2 ⟨y,H2,I2,r2,q2⟩=>?_))
 refine wpAny_bind (wpAny_standAt (wpAny_bind (wpAny_holding (thn (hs pins s2 σ H2 x y v ov iv u _ I2 r1 r2 r q2) fun _ s3 ⟨H3,I3,q3⟩=>?_))))
 exact wpAny_release ⟨σ,H3,I3,q3⟩
def tAsg (te:TE) (g:TG):TS:=fun D σ H=>te σ H fun x H1=>g x σ H1 D.nx
theorem ps_asg {tg e:Expr} {te:TE} {g:TG} (he:PE X e te) (hg:PG X tg g) (hs:swapsWithSole [tg] e pos.line X.env=pure false:=by rfl) (hw:swappedStores [tg] e X.env=pure none:=by rfl)
  (h1:(assignEach [tg] X.env).map (·.2)=[assign tg X.env]:=by rfl):PS X (.Assign [tg] e pos) (tAsg te g):=by
 intro pins s σ H D I h
 refine wpAny_Assign_stores (thn (he pins s σ H _ I h) fun v s1 ⟨x,H1,I1,r1,q1⟩=>?_) hs hw
 rw [h1]
 exact thn (hg pins s1 σ H1 x v _ I1 r1 q1) fun _ s2 q=>q
end
section
variable {X:Cx} {pos:Pos}
end
structure It where
 go:Nat->Hp->Prop
 yld:Nat->Hp->V->Hp->Prop
 stop:Nat->Hp->Prop
def FpOk (X:Cx) (pins:List (Addr × Obj)) (H:Hp) (b:Addr):Prop :=
 H b=none/\b ≠ X.env.locals/\b ∉ X.fs/\(b ∈ X.ex\/X.s₀.heap.objs.size<=b)/\(∀ x c,X.env.cells.lookup x=some c->c ≠ b)/\∀ p ∈ X.pn++pins,p.1 ≠ b
theorem Inv.fpOk {X:Cx} {pins:List (Addr × Obj)} {σ:St} {H H':Hp} {s:Shared} {b:Addr} (I:Inv X pins σ H s) (hb:s.heap.objs.size<=b) (hn:H' b=none):FpOk X pins H' b:=by
 refine ⟨hn,Nat.ne_of_gt (Nat.lt_of_lt_of_le I.lt hb),I.nofs hb,.inr (Nat.le_trans I.sz hb),fun x c e z=>?_,fun p hp z=>?_⟩
 ·obtain ⟨v,q⟩:=I.cell x c e
  exact absurd (Nat.lt_of_lt_of_le q.lt (by rw [z];exact hb)) (Nat.lt_irrefl _)
 ·exact absurd (Nat.lt_of_lt_of_le (Heap.lt_size (I.pin p hp).1) (by rw [z];exact hb)) (Nat.lt_irrefl _)
structure Turn (P:Program) (w:World) (K:PySem.W.Frag) (tg:Expr) (J:It) (fp:List Addr) (it:Addr) (tn:Nat->Heap->Prop):Prop where
 mem:it ∈ fp
 obj:∀ i h,tn i h->∀ b ∈ fp,∃ o,h.get? b=some o/\∀ v,o.data ≠ .cell v
 keep:∀ i h h',tn i h->(∀ b ∈ fp,∀ o,h.get? b=some o->h'.get? b=some o)->tn i h'
 item:∀ (X:Cx),X.prog=P->X.w=w->X.K=K->X.calm=true->∀ (i:Nat) (pins:List (Addr × Obj)) (s:Shared) (σ:St) (H:Hp) (E:Value->Shared->Prop),Inv X pins σ H s->(∀ b ∈ fp,FpOk X pins H b)->tn i s.heap->J.go i H ->
  wpAny (model P w) X.A (pyNext (.ref it)) (fun r s1=>∃ u,r=some u /\
   wpAny (model P w) X.A (letOwnedTupleGo tg (.ref it) u) (fun _ s2=>∃ x H',Inv X pins σ H' s2/\RelV x u/\J.yld i H x H'/\tn (i + 1) s2.heap/\∀ b ∈ fp,H' b=none) E s1) E s
 done:∀ (X:Cx),X.prog=P->X.w=w->X.K=K->X.calm=true->∀ (i:Nat) (pins:List (Addr × Obj)) (s:Shared) (σ:St) (H:Hp) (E:Value->Shared->Prop),Inv X pins σ H s->(∀ b ∈ fp,FpOk X pins H b)->tn i s.heap->J.stop i H ->
  wpAny (model P w) X.A (pyNext (.ref it)) (fun r s1=>r=none/\Inv X pins σ H s1) E s
 self:∀ (A:Around) (i:Nat) (s:Shared) (Q:Value->Shared->Prop) (E:Value->Shared->Prop),tn i s.heap->Q (.ref it) s->wpAny (model P w) A (pyIter (.ref it)) Q E s
abbrev TI:=St->Hp->(It->Hp->Prop)->Prop
def PIE (X:Cx) (pins:List (Addr × Obj)) (σ:St) (tg:Expr) (R:It->Hp->Prop) (itv:Value) (s2:Shared):Prop :=
 ∃ (it:Addr) (fp:List Addr) (tn:Nat->Heap->Prop) (J:It) (H':Hp),itv=.ref it/\Inv X pins σ H' s2/\Turn X.prog X.w X.K tg J fp it tn/\tn 0 s2.heap/\(∀ b ∈ fp,FpOk X pins H' b)/\R J H'
def PI (X:Cx) (tg iter:Expr) (wi:TI):Prop :=
 ∀ (pins:List (Addr × Obj)) (s:Shared) (σ:St) (H:Hp) (R:It->Hp->Prop),Inv X pins σ H s->wi σ H R ->
  wpAny (model X.prog X.w) X.A (eval iter X.env) (fun v s1=>wpAny (model X.prog X.w) X.A (pyIter v) (PIE X pins σ tg R) X.xe s1) X.xe s
theorem go_of {M : Model} {A : Around} {E : Value->Shared->Prop} {s : Shared} {tg : Expr} {it : Addr} {u : Value} {o : Obj} {n : String} {vs : Array Value} {Q : Unit->Shared->Prop} (ho : s.heap.get? it = some o) (hc : o.cls = .type n) (hd : o.data = .fields vs)
    (hn : ["enumerate", "zip", "dict_itemiterator", "dict_reverseitemiterator", "odict_iterator", "itertools.zip_longest", "itertools.pairwise"].contains n = false) (hQ : Q () s) : wpAny M A (letOwnedTupleGo tg (.ref it) u) Q E s := by
  unfold letOwnedTupleGo
  cases tg <;> first
    | exact wpAny_pure hQ
    | (cases u <;> first
        | exact wpAny_pure hQ
        | (refine wpAny_bind (wpAny_load ho ?_)
           rw [hc, hd]
           show wpAny M A (if (["enumerate", "zip", "dict_itemiterator", "dict_reverseitemiterator", "odict_iterator", "itertools.zip_longest", "itertools.pairwise"].contains n && vs[0]? == some (rawInt _)) = true then _ else _) Q E s
           rw [if_neg (by intro h; rw [hn, Bool.false_and] at h; cases h)]
           exact wpAny_pure hQ))
def Itl (K:PySem.W.Frag) (a:Addr):It :=
 ⟨fun i H=>∃ xs x,SqL K H a xs/\xs[i]?=some x,fun i H x H'=>H'=H/\∀ xs,SqL K H a xs->xs[i]?=some x,fun i H=>∃ xs,SqL K H a xs/\xs.length<=i⟩
def Itr (lo:Int) (n:Nat):It:=⟨fun i _=>i < n,fun i H x H'=>H'=H/\x=.int (lo + i),fun i _=>n<=i⟩
theorem turn_list {P:Program} {w:World} {K:PySem.W.Frag} {tg:Expr} (a it:Addr):Turn P w K tg (Itl K a) [it] it (fun i h=>h.IsListIter it a i) where
 mem:=by simp
 obj:=fun i h st b hb=>by
  have e:b=it:=by simpa using hb
  subst e
  obtain ⟨o,e,c,d⟩:=st
  exact ⟨o,e,fun v z=>by rw [d] at z;cases z⟩
 keep:=fun i h h' st k=>st.at fun o e=>k it (by simp) o e
 item:=by
  intro X hP hw hK hc i pins s σ H E I hf st hg
  subst hP hw hK
  obtain ⟨xs,x,hq,hx⟩:=hg
  obtain ⟨its,rv,p,hz⟩:=I.list hq
  obtain ⟨u,hu,ru⟩:=rv.get hx
  obtain ⟨f0,f1,f2,f3,f4,f5⟩:=hf it (by simp)
  refine wpAny_pyNext_list_item st p.isList (x:=u) (by simpa using hu) fun h' st' sb=>?_
  have I1:Inv X pins σ H { s with heap:=h' }:=I.turned (t':=s.toks) (fun b o hb e=>(sb.2 b hb).trans e) f0 f1 f3 f4 f5
  obtain ⟨o,e,c,d⟩:=id st'
  exact ⟨u,rfl,go_of (s:={ s with heap:=h' }) e c d (by decide) ⟨x,H,I1,ru,⟨rfl,fun ys hy=>by rw [I.list_inj hy hq];exact hx⟩,st',fun b hb=>(hf b hb).1⟩⟩
 done:=by
  intro X hP hw hK hc i pins s σ H E I hf st hg
  subst hP hw hK
  obtain ⟨xs,hq,hx⟩:=hg
  obtain ⟨its,rv,p,hz⟩:=I.list hq
  obtain ⟨f0,f1,f2,f3,f4,f5⟩:=hf it (by simp)
  have hl:=rv.length
  exact wpAny_pyNext_list_end (I.ok.hd hc) st p.isList (by simp;omega) fun h' eb=>⟨rfl,I.turned (t':=s.toks) (fun b o hb e=>eb b o hb e) f0 f1 f3 f4 f5⟩
 self:=fun _ _ _ _ _ st h=>wpAny_pyIter_listiter st h
theorem turn_range {P:Program} {w:World} {K:PySem.W.Frag} {tg:Expr} (it:Addr) (lo:Int) (n:Nat):Turn P w K tg (Itr lo n) [it] it (fun i h=>IsRangeIter h it (lo + (i:Nat) * 1) ((n:Int) - (i:Nat)) 1) where
 mem:=by simp
 obj:=fun i h st b hb=>by
  have e:b=it:=by simpa using hb
  subst e
  exact ⟨_,st,fun v z=>by
   have z':Data.fields _=Data.cell v:=z
   cases z'⟩
 keep:=fun i h h' st k=>k it (by simp) _ st
 item:=by
  intro X hP hw hK hc i pins s σ H E I hf st hg
  subst hP hw hK
  obtain ⟨f0,f1,f2,f3,f4,f5⟩:=hf it (by simp)
  have W:=Walks.range (prog:=X.prog) (w:=X.w) (I.ok.hd hc) it lo 1 n
  refine W.item i s _ _ hg st fun v h' tk hv st' kk=>?_
  obtain ⟨t,rfl⟩:=hv
  have I1:Inv X pins σ H { s with heap:=h',toks:=tk }:=I.turned (fun b o hb e=>kk b o (by simpa using hb) e) f0 f1 f3 f4 f5
  refine ⟨_,rfl,go_of (s:={ s with heap:=h',toks:=tk }) (n:="range_iterator") st' rfl rfl (by decide) ⟨.int (lo + i),H,I1,⟨t,?_⟩,⟨rfl,rfl⟩,st',fun b hb=>(hf b hb).1⟩⟩
  rw [Int.mul_one]
 done:=by
  intro X hP hw hK hc i pins s σ H E I hf st hg
  subst hP hw hK
  obtain ⟨f0,f1,f2,f3,f4,f5⟩:=hf it (by simp)
  exact wpAny_pyNext_range_end (I.ok.hd hc) st (by have:n<=i:=hg;omega) fun h' eb=>⟨rfl,I.turned (t':=s.toks) (fun b o hb e=>eb b o hb e) f0 f1 f3 f4 f5⟩
 self:=fun _ _ _ _ _ st h=>wpAny_pyIter_rangeiter st h
end L2
namespace L2
open PySem PySem.Spec PyProof.Rows
section
variable {X:Cx} {tg:Expr}
def iList (K:PySem.W.Frag) (tl:TE):TI:=fun σ H R=>tl σ H fun x H1=>∃ a,x=.ref a/\(∃ xs,SqL K H1 a xs)/\R (Itl K a) H1
theorem pi_list {l:Expr} {tl:TE} (hl:PE X l tl):PI X tg l (iList X.K tl):=by
 intro pins s σ H R I h
 refine thn (hl pins s σ H _ I h) fun v s1 ⟨x,H1,I1,r1,q1⟩=>?_
 obtain ⟨a,e,⟨xs,hq⟩,q⟩:=q1
 subst e
 cases r1
 obtain ⟨its,rv,p,hz⟩:=I1.list hq
 refine wpAny_pyIter_list p.isList ?_
 refine ⟨s1.heap.objs.size,[s1.heap.objs.size],_,_,H1,rfl,I1.kept (t':=s1.toks) fun b o e=>Heap.get?_push_of_some _ e,turn_list a _,⟨_,Heap.get?_push_size _ rfl,rfl,rfl⟩,fun b hb=>?_,q⟩
 have e:b=s1.heap.objs.size:=by simpa using hb
 subst e
 exact I1.fpOk (Nat.le_refl _) (I1.hok.fresh (Nat.le_refl _))
theorem range_it {pins:List (Addr × Obj)} {σ:St} {H:Hp} {s:Shared} {R:It->Hp->Prop} {E:Value->Shared->Prop} {lo hi:Int} {t u v:Tok} {tk:Nat} (I:Inv X pins σ H s) (h1:-(2 ^ 62)<=lo) (h2:lo < 2 ^ 62) (h3:-(2 ^ 62)<=hi) (h4:hi < 2 ^ 62)
  (q:R (Itr lo (hi - lo).toNat) H):wpAny (model X.prog X.w) X.A (pyIter (.ref s.heap.objs.size)) (PIE X pins σ tg R) E { s with heap:=s.heap.push { cls:=.type "range",data:=.fields #[.int lo t,.int hi u,.int 1 v] },toks:=tk }:=by
 refine wpAny_pyIter_range (IsRange.new ..) (small_one h1 h2 h3 h4) ?_
 have I1:Inv X pins σ H { s with heap:=s.heap.push { cls:=.type "range",data:=.fields #[.int lo t,.int hi u,.int 1 v] },toks:=tk }:=I.kept fun b o e=>Heap.get?_push_of_some _ e
 refine ⟨(s.heap.push { cls:=.type "range",data:=.fields #[.int lo t,.int hi u,.int 1 v] }).objs.size,[(s.heap.push { cls:=.type "range",data:=.fields #[.int lo t,.int hi u,.int 1 v] }).objs.size],_,_,H,rfl,
  I1.kept (t':=tk) fun b o e=>Heap.get?_push_of_some _ e,turn_range _ lo (hi - lo).toNat,?_,fun b hb=>?_,q⟩
 ·have e1:lo + ((0:Nat):Int) * 1=lo:=by simp
  have e2:(((hi - lo).toNat:Nat):Int) - ((0:Nat):Int)=Builtin.Range.rangeSize lo hi 1:=by rw [rangeSize_one];split <;> omega
  show IsRangeIter _ _ (lo + ((0:Nat):Int) * 1) ((((hi - lo).toNat:Nat):Int) - ((0:Nat):Int)) 1
  rw [e1,e2]
  exact Heap.get?_push_size _ rfl
 ·have e:b=(s.heap.push { cls:=.type "range",data:=.fields #[.int lo t,.int hi u,.int 1 v] }).objs.size:=by simpa using hb
  subst e
  exact I1.fpOk (Nat.le_refl _) (I1.hok.fresh (Nat.le_refl _))
def iRng1 (ta:TA):TI:=fun σ H R=>ta σ H fun vs H1=>∃ j:Int,vs=[.int j]/\-(2 ^ 62)<=j/\j < 2 ^ 62/\R (Itr 0 j.toNat) H1
theorem pi_range1 {a:Expr} {ta:TA} {p pos:Pos} (hg:Gl X "range") (hm:X.mg "range" = none) (ha:PA X [a] ta) (hs:starEach [a] X.env=[(false,eval a X.env)]:=by rfl):PI X tg (.Call (.Name "range" p) [a] [] pos) (iRng1 ta):=by
 intro pins s σ H R I h
 refine Call_ (ld_blt I hg hm boot_range (PyProof.Rows.callWith_type1 (thn (ha pos pins s σ H _ I h) fun us s1 ⟨vs,H1,I1,r1,q1⟩=>?_) hs rfl))
 obtain ⟨j,e,q1,q2,q⟩:=q1
 subst e
 cases r1 with
 | cons r rr =>
  cases rr
  obtain ⟨t,rfl⟩:=r
  exact call_range_1 (range_it I1 (by omega) (by omega) q1 q2 (by simpa using q))
def tFor (wi:TI) (g:TG) (tb:TS):TS:=fun D σ H=>wi σ H fun J H1=>∃ W:Nat->Nat->St->Hp->Prop,(∃ m,W 0 m σ H1)/\∀ i m σ H,W i m σ H ->
 (J.stop i H/\D.nx σ H)\/(J.go i H/\∃ N:St->Hp->Prop,(∀ σ' H',N σ' H'->∃ m',m' < m/\W (i + 1) m' σ' H')/\∀ x H',J.yld i H x H'->g x σ H' fun σ2 H2=>tb { D with nx:=N,ct:=N,bk:=D.nx } σ2 H2)
def pinsAt (fp:List Addr) (h:Heap):List (Addr × Obj):=fp.filterMap fun b=>(h.get? b).map fun o=>(b,o)
theorem mem_pinsAt {fp:List Addr} {h:Heap} {b:Addr} {o:Obj} (hb:b ∈ fp) (e:h.get? b=some o):(b,o) ∈ pinsAt fp h:=List.mem_filterMap.mpr ⟨b,hb,by rw [e];rfl⟩
theorem of_pinsAt {fp:List Addr} {h:Heap} {p:Addr × Obj} (hp:p ∈ pinsAt fp h):p.1 ∈ fp/\h.get? p.1=some p.2:=by
 obtain ⟨b,hb,e⟩:=List.mem_filterMap.mp hp
 cases q:h.get? b with
 | none=>rw [q] at e;cases e
 | some o =>
  rw [q] at e
  have e':(b,o)=p:=Option.some.inj e
  subst e'
  exact ⟨hb,q⟩
theorem Inv.pinned {pins:List (Addr × Obj)} {σ:St} {H:Hp} {s:Shared} {fp:List Addr} (I:Inv X pins σ H s) (hf:∀ b ∈ fp,FpOk X pins H b) (ho:∀ b ∈ fp,∃ o,s.heap.get? b=some o/\∀ v,o.data ≠ .cell v):Inv X (pins++pinsAt fp s.heap) σ H s :=
 I.pins_of fun p hp=>(List.mem_append.mp hp).elim (fun z=>I.pin p (List.mem_append_right _ z)) fun z=>by
  obtain ⟨hb,e⟩:=of_pinsAt z
  obtain ⟨f0,f1,f2,_⟩:=hf p.1 hb
  obtain ⟨o,e',d⟩:=ho p.1 hb
  rw [e] at e';cases e'
  exact ⟨e,f0,f1,f2,d⟩
theorem Inv.unpinned {pins pl:List (Addr × Obj)} {σ:St} {H:Hp} {s:Shared} (I:Inv X (pins++pl) σ H s):Inv X pins σ H s:=I.pins_of fun p hp=>I.pin p (List.mem_append_right _ (List.mem_append_left _ hp))
theorem ps_for {iter:Expr} {body:List Stmt} {wi:TI} {g:TG} {tb:TS} {pos:Pos} (hp:PassesOwn (model X.prog X.w) X.A X.env X.xe) (hc:X.calm=true) (hi:PI X tg iter wi) (hg:PG X tg g) (hb:PSs X body tb)
  (hs:∀ x,foldedSetIterable iter X.env x=pure x:=by intro _;rfl):PS X (.For tg iter body [] pos) (tFor wi g tb):=by
 intro pins s σ H D I h
 refine wpAny_For (thn (hi pins s σ H _ I h) fun v s1 h1=>thn h1 fun itv s2 h2=>?_) hs
 obtain ⟨it,fp,tn,J,H2,e,I2,T,st2,f2,W,⟨m0,w0⟩,turn⟩:=h2
 subst e
 -- what stays true of the iterator's objects through the loop
 have stat:∀ {H':Hp},(∀ b ∈ fp,H' b=none)->∀ b ∈ fp,FpOk X pins H' b:=fun hn b hb=>⟨hn b hb,(f2 b hb).2⟩
 refine codeAny_forLoop_any (fun n s'=>∃ i σ' H',Inv X pins σ' H' s'/\tn i s'.heap/\(∀ b ∈ fp,H' b=none)/\W i n σ' H') ?_ m0 ⟨0,σ,H2,I2,st2,fun b hb=>(f2 b hb).1,w0⟩
 rintro n s3 ⟨i,σ3,H3,I3,st3,fr3,w3⟩
 rcases turn i n σ3 H3 w3 with ⟨stop,qn⟩ | ⟨go,N,hN,step⟩
 ·refine wpAny_passesOwn hp (thn (T.done X rfl rfl rfl hc i pins s3 σ3 H3 X.xe I3 (stat fr3) st3 stop) fun r s4 ⟨hr,I4⟩=>?_)
  subst hr
  exact wpAny_execs_nil ⟨σ3,H3,I4,qn⟩
 ·refine wpAny_passesOwn hp (thn (T.item X rfl rfl rfl hc i pins s3 σ3 H3 X.xe I3 (stat fr3) st3 go) fun r s4 ⟨u,hr,h4⟩=>?_)
  subst hr
  refine wpAny_passesOwn hp (thn h4 fun _ s5 ⟨x,H5,I5,r5,y5,st5,fr5⟩=>?_)
  have I5':=I5.pinned (stat fr5) (T.obj _ _ st5)
  refine wpAny_passesOwn hp (thn (hg _ s5 σ3 H5 x u _ I5' r5 (step x H5 y5)) fun _ s6 ⟨σ6,H6,I6,q6⟩=>?_)
  refine wpAny_passesOwn hp (thn (hb _ s6 σ6 H6 _ I6 q6) fun f s7 q7=>?_)
  have again:∀ {σ7:St} {H7:Hp},Inv X (pins++pinsAt fp s5.heap) σ7 H7 s7->N σ7 H7->∃ m,m < n/\∃ i σ' H',Inv X pins σ' H' s7/\tn i s7.heap/\(∀ b ∈ fp,H' b=none)/\W i m σ' H':=fun {σ7 H7} I7 n7=>by
   obtain ⟨m',hm,w7⟩:=hN σ7 H7 n7
   refine ⟨m',hm,i + 1,σ7,H7,I7.unpinned,T.keep _ _ _ st5 fun b hb o e=>(I7.pin (b,o) (List.mem_append_right _ (List.mem_append_right _ (mem_pinsAt hb e)))).1,fun b hb=>?_,w7⟩
   obtain ⟨o,e,d⟩:=T.obj _ _ st5 b hb
   exact (I7.pin (b,o) (List.mem_append_right _ (List.mem_append_right _ (mem_pinsAt hb e)))).2.1
  cases f with
  | next=>obtain ⟨σ7,H7,I7,n7⟩:=q7;exact again I7 n7
  | cont=>obtain ⟨σ7,H7,I7,n7⟩:=q7;exact again I7 n7
  | brk=>obtain ⟨σ7,H7,I7,q7⟩:=q7;exact ⟨σ7,H7,I7.unpinned,q7⟩
  | ret v=>obtain ⟨x7,σ7,H7,I7,r7,q7⟩:=q7;exact ⟨x7,σ7,H7,I7.unpinned,r7,q7⟩
end
end L2
namespace L2
open PySem PySem.Spec PyProof.Rows
abbrev R2:=V->V->Hp->VK->Prop
def OpR (X:Cx) (f:Value->Value->Sem Value) (r:R2):Prop :=
 ∀ (pins:List (Addr × Obj)) (s:Shared) (σ:St) (H:Hp) (x y:V) (v u:Value) (Q:VK),Inv X pins σ H s->RelV x v->RelV y u->r x y H Q ->
  wpAny (model X.prog X.w) X.A (f v u) (EP X pins σ Q) X.xe s
def UnR (X:Cx) (f:Value->Sem Value) (r:V->Hp->VK->Prop):Prop :=
 ∀ (pins:List (Addr × Obj)) (s:Shared) (σ:St) (H:Hp) (x:V) (v:Value) (Q:VK),Inv X pins σ H s->RelV x v->r x H Q ->
  wpAny (model X.prog X.w) X.A (f v) (EP X pins σ Q) X.xe s
def CallR (X:Cx) (f:Value) (r:List V->Hp->VK->Prop):Prop :=
 ∀ (pins:List (Addr × Obj)) (s:Shared) (σ:St) (H:Hp) (xs:List V) (us:List Value) (Q:VK),Inv X pins σ H s->Vals xs us->r xs H Q ->
  wpAny (model X.prog X.w) X.A (call f us) (EP X pins σ Q) X.xe s
def TruR (X:Cx) (r:V->Hp->(Bool->Hp->Prop)->Prop):Prop :=
 ∀ (pins:List (Addr × Obj)) (s:Shared) (σ:St) (H:Hp) (x:V) (v:Value) (Q:Bool->Hp->Prop),Inv X pins σ H s->RelV x v->r x H Q ->
  wpAny (model X.prog X.w) X.A (truthy v) (TP X pins σ Q) X.xe s
def tOp (r:R2) (ta tb:TE):TE:=fun σ H Q=>ta σ H fun x H1=>tb σ H1 fun y H2=>r x y H2 Q
def tUn (r:V->Hp->VK->Prop) (ta:TE):TE:=fun σ H Q=>ta σ H fun x H1=>r x H1 Q
def rI (C:Int->Int->Prop) (g:Int->Int->V):R2:=fun x y H Q=>∃ i j,x=.int i/\y=.int j/\C i j/\Q (g i j) H
def rI0 (g:Int->Int->V):R2:=fun x y H Q=>∃ i j,x=.int i/\y=.int j/\Q (g i j) H
def rU (g:Int->V):V->Hp->VK->Prop:=fun x H Q=>∃ i,x=.int i/\Q (g i) H
section
variable {X:Cx} {a b c:Expr} {ta tb tc:TE} {pos:Pos}
theorem binT (ha:PE X a ta) (hb:PE X b tb) {pins:List (Addr × Obj)} {s:Shared} {σ:St} {H:Hp} {R:V->V->Hp->Prop} (I:Inv X pins σ H s)
  (h:ta σ H fun x H1=>tb σ H1 fun y H2=>R x y H2) {Q:Value->Shared->Prop} {f:Value->Value->Sem Value}
  (hf:∀ v u s2 x y H2,Inv X pins σ H2 s2->RelV x v->RelV y u->R x y H2->wpAny (model X.prog X.w) X.A (f v u) Q X.xe s2) :
  wpAny (model X.prog X.w) X.A (eval a X.env) (fun v s₁=>wpAny (model X.prog X.w) X.A (eval b X.env) (fun u s₂=>wpAny (model X.prog X.w) X.A (f v u) Q X.xe s₂) X.xe s₁) X.xe s:=by
 refine thn (ha pins s σ H _ I h) fun v s1 ⟨x,H1,I1,r1,q1⟩=>?_
 refine thn (hb pins s1 σ H1 _ I1 q1) fun u s2 ⟨y,H2,I2,r2,q2⟩=>?_
 exact hf v u s2 x y H2 I2 r1 r2 q2
theorem pe_op {op:Operator} {r:R2} (ho:OpR X (binaryOp op) r) (ha:PE X a ta) (hb:PE X b tb):PE X (.BinOp a op b pos) (tOp r ta tb):=by
 intro pins s σ H Q I h
 exact wpAny_BinOp (binT ha hb I h fun v u s2 x y H2 I2 rx ry q=>ho pins s2 σ H2 x y v u Q I2 rx ry q)
theorem pe_un {op:UnaryOp} {r:V->Hp->VK->Prop} (ho:UnR X (unaryOp op) r) (ha:PE X a ta):PE X (.UnaryOp op a pos) (tUn r ta):=by
 intro pins s σ H Q I h
 exact UnaryOp_ (thn (ha pins s σ H _ I h) fun v s1 ⟨x,H1,I1,r1,q1⟩=>ho pins s1 σ H1 x v Q I1 r1 q1)
theorem opI {f:Value->Value->Sem Value} {C:Int->Int->Prop} {g:Int->Int->Int}
  (rule:∀ (i j:Int) (t u:Tok) (s:Shared) (Q:Value->Shared->Prop) (E:Value->Shared->Prop),C i j->Q (.int (g i j) s.toks) { s with toks:=s.toks + 1 }->wpAny (model X.prog X.w) X.A (f (.int i t) (.int j u)) Q E s) :
  OpR X f (rI C fun i j=>.int (g i j)):=by
 intro pins s σ H x y v u Q I rx ry h
 obtain ⟨i,j,rfl,rfl,hc,q⟩:=h
 obtain ⟨t,rfl⟩:=rx
 obtain ⟨t',rfl⟩:=ry
 exact rule i j t t' s _ _ hc ⟨.int (g i j),H,I.tok _,⟨_,rfl⟩,q⟩
theorem opI0 {f:Value->Value->Sem Value} {g:Int->Int->Int}
  (rule:∀ (i j:Int) (t u:Tok) (s:Shared) (Q:Value->Shared->Prop) (E:Value->Shared->Prop),Q (.int (g i j) s.toks) { s with toks:=s.toks + 1 }->wpAny (model X.prog X.w) X.A (f (.int i t) (.int j u)) Q E s) :
  OpR X f (rI0 fun i j=>.int (g i j)):=by
 intro pins s σ H x y v u Q I rx ry h
 obtain ⟨i,j,rfl,rfl,q⟩:=h
 obtain ⟨t,rfl⟩:=rx
 obtain ⟨t',rfl⟩:=ry
 exact rule i j t t' s _ _ ⟨.int (g i j),H,I.tok _,⟨_,rfl⟩,q⟩
theorem opB0 {f:Value->Value->Sem Value} {g:Int->Int->Bool}
  (rule:∀ (i j:Int) (t u:Tok) (s:Shared) (Q:Value->Shared->Prop) (E:Value->Shared->Prop),Q (.bool (g i j)) s->wpAny (model X.prog X.w) X.A (f (.int i t) (.int j u)) Q E s) :
  OpR X f (rI0 fun i j=>.bl (g i j)):=by
 intro pins s σ H x y v u Q I rx ry h
 obtain ⟨i,j,rfl,rfl,q⟩:=h
 obtain ⟨t,rfl⟩:=rx
 obtain ⟨t',rfl⟩:=ry
 exact rule i j t t' s _ _ ⟨.bl (g i j),H,I,rfl,q⟩
def CPow (i j:Int):Prop:=0<=j/\j<=1000000/\i.natAbs < 2 ^ 64
def CMul (i j:Int):Prop:=(-(2 ^ 64) < i/\i < 2 ^ 64)\/(-(2 ^ 64) < j/\j < 2 ^ 64)
theorem CMul.ok {i j:Int} (h:CMul i j):IntMulOk i j:=by
 rcases h with ⟨h1,h2⟩ | ⟨h1,h2⟩
 ·exact .of_left (intBits_le_64 h1 h2)
 ·exact .of_right (intBits_le_64 h1 h2)
theorem op_add:OpR X (binaryOp .Add) (rI0 fun i j=>.int (i + j)):=opI0 fun _ _ _ _ _ _ _ q=>add_int q
theorem op_mod:OpR X (binaryOp .Mod) (rI (fun _ j=>0 < j) fun i j=>.int (i % j)):=opI fun i j _ _ _ _ _ hc q=>by
 have h1:(0:Int) < j:=hc
 exact mod_int' (by omega) (by rw [Int.fmod_eq_emod_of_nonneg i (by omega)];exact q)
theorem op_pow:OpR X (binaryOp .Pow) (rI CPow fun i j=>.int (i ^ j.toNat)):=opI fun _ _ _ _ _ _ _ hc q=>pow_int_small hc.1 hc.2.1 hc.2.2 q
theorem unI {f:Value->Sem Value} {g:Int->Int}
  (rule:∀ (i:Int) (t:Tok) (s:Shared) (Q:Value->Shared->Prop) (E:Value->Shared->Prop),Q (.int (g i) s.toks) { s with toks:=s.toks + 1 }->wpAny (model X.prog X.w) X.A (f (.int i t)) Q E s) :
  UnR X f (rU fun i=>.int (g i)):=by
 intro pins s σ H x v Q I rx h
 obtain ⟨i,rfl,q⟩:=h
 obtain ⟨t,rfl⟩:=rx
 exact rule i t s _ _ ⟨.int (g i),H,I.tok _,⟨_,rfl⟩,q⟩
theorem un_neg:UnR X (unaryOp .USub) (rU fun i=>.int (-i)):=unI fun _ _ _ _ _ q=>neg_int q
end
section
variable {X:Cx} {a b c:Expr} {ta tb tc:TE} {pos:Pos}
theorem fin_bl {pins:List (Addr × Obj)} {σ:St} {H:Hp} {s:Shared} {Q:VK} {k k':Bool} (I:Inv X pins σ H s) (q:Q (.bl k) H) (e:k=k'):EP X pins σ Q (.bool k') s:=by
 subst e
 exact ⟨.bl k,H,I,rfl,q⟩
theorem op_lt:OpR X (compareOp .Lt) (rI0 fun i j=>.bl (decide (i < j))):=opB0 fun _ _ _ _ _ _ _ q=>lt_int q
theorem op_le:OpR X (compareOp .LtE) (rI0 fun i j=>.bl (decide (i<=j))):=opB0 fun _ _ _ _ _ _ _ q=>le_int q
theorem op_gt:OpR X (compareOp .Gt) (rI0 fun i j=>.bl (decide (j < i))):=opB0 fun _ _ _ _ _ _ _ q=>gt_int q
theorem op_ge:OpR X (compareOp .GtE) (rI0 fun i j=>.bl (decide (j<=i))):=opB0 fun _ _ _ _ _ _ _ q=>ge_int q
theorem op_in_str:OpR X (compareOp .In) (fun x y H Q=>∃ i j,x=.str i/\y=.str j/\Q (.bl (!(Builtin.Str.occurrences j i 0 j.length 1).isEmpty)) H):=by
 intro pins s σ H x y v u Q I rx ry h
 obtain ⟨i,j,rfl,rfl,q⟩:=h
 obtain ⟨t,rfl⟩:=rx
 obtain ⟨t',rfl⟩:=ry
 exact in_str (fin_bl I q rfl)
theorem op_isN:OpR X (compareOp .Is) (fun x y H Q=>y=.non/\Q (.bl (decide (x=.non))) H):=by
 intro pins s σ H x y v u Q I rx ry h
 obtain ⟨rfl,q⟩:=h
 cases ry
 refine is_none_gen (fin_bl I q ?_)
 cases x <;> first
  | (cases rx;rfl)
  | (obtain ⟨t,rfl⟩:=rx;rfl)
theorem OpR.or {f:Value->Value->Sem Value} {r r':R2} (h:OpR X f r) (h':OpR X f r'):OpR X f (fun x y H Q=>r x y H Q\/r' x y H Q):=by
 intro pins s σ H x y v u Q I rx ry q
 rcases q with q | q
 ·exact h pins s σ H x y v u Q I rx ry q
 ·exact h' pins s σ H x y v u Q I rx ry q
theorem pe_cmpR {op:CmpOp} {r:R2} (ho:OpR X (compareOp op) r) (ha:PE X a ta) (hb:PE X b tb) (hm:behindInMarks op b=false):PE X (.Compare a [op] [b] pos) (tOp r ta tb):=by
 intro pins s σ H Q I h
 exact wpAny_Compare1 (binT ha hb I h fun v u s2 x y H2 I2 rx ry q=>ho pins s2 σ H2 x y v u Q I2 rx ry q) hm
def tTest (t:TE):TT:=fun σ H Q=>t σ H fun x H'=>∃ k,x=.bl k/\Q k H'
theorem pt_cmpR {op:CmpOp} {r:R2} (ho:OpR X (compareOp op) r) (ha:PE X a ta) (hb:PE X b tb) (hm:behindInMarks op b=false):PT X (.Compare a [op] [b] pos) (tTest (tOp r ta tb)):=by
 intro pins s σ H Q I h
 refine wpAny_isTrue_Compare1 (thn (ha pins s σ H _ I h) fun v s1 ⟨x,H1,I1,r1,q1⟩=>thn (hb pins s1 σ H1 _ I1 q1) fun u s2 ⟨y,H2,I2,r2,q2⟩ =>
  thn (ho pins s2 σ H2 x y v u _ I2 r1 r2 q2) fun c s3 ⟨z,H3,I3,r3,k,e,q3⟩=>?_) hm
 subst e
 cases r3
 exact wpAny_truthy_bool ⟨H3,I3,q3⟩
def tChain (r r':R2) (ta tb tc:TE):TE:=fun σ H Q=>ta σ H fun x H1=>tb σ H1 fun y H2=>r x y H2 fun z H3=>∃ k,z=.bl k /\
 (if k=true then tc σ H3 fun w' H4=>r' y w' H4 Q else Q (.bl false) H3)
theorem pe_chain {op op':CmpOp} {r r':R2} (ho:OpR X (compareOp op) r) (ho':OpR X (compareOp op') r') (ha:PE X a ta) (hb:PE X b tb) (hc:PE X c tc)
  (hm:lastMarks [op,op'] [b,c]=false:=by with_unfolding_all rfl):PE X (.Compare a [op,op'] [b,c] pos) (tChain r r' ta tb tc):=by
 intro pins s σ H Q I h
 refine Compare_chain (thn (ha pins s σ H _ I h) fun v s1 ⟨x,H1,I1,r1,q1⟩=>chain_link (thn (hb pins s1 σ H1 _ I1 q1) fun u s2 ⟨y,H2,I2,r2,q2⟩ =>
  thn (ho pins s2 σ H2 x y v u _ I2 r1 r2 q2) fun d s3 ⟨z,H3,I3,r3,k,e,q3⟩=>?_)) hm
 subst e
 cases r3
 refine wpAny_truthy_bool ?_
 cases k with
 | false=>exact ite_ff ⟨.bl false,H3,I3,rfl,q3⟩
 | true=>exact ite_tt (chain_last (thn (hc pins s3 σ H3 _ I3 q3) fun w' s4 ⟨z',H4,I4,r4,q4⟩=>ho' pins s4 σ H4 y z' u w' Q I4 r2 r4 q4))
def TruV (K:PySem.W.Frag) (x:V) (H:Hp) (k:Bool):Prop :=
 match x with
 | .non=>k=false
 | .bl b=>k=b
 | .int i=>k=(i != 0)
 | .str y=>y.length<=sizeLine/\k=((y.length:Int) != 0)
 | .byt y=>y.size<=sizeLine/\k=((y.size:Int) != 0)
 | .ref p=>(∃ xs,SqL K H p xs/\k=!xs.isEmpty)\/(∃ xs,SqT K H p xs/\k=!xs.isEmpty)\/∃ kvs,H p=some (.dK kvs)/\k=!kvs.isEmpty
 | _=>False
theorem isEmpty_kv {κ:Type} {kvs:List (κ × V)} {vs:List (κ × Value)} (r:KV kvs vs):(!vs.isEmpty)=!kvs.isEmpty:=by
 cases r <;> rfl
theorem isEmpty_of {xs:List V} {its:List Value} (r:Vals xs its):(!its.toArray.isEmpty)=!xs.isEmpty:=by
 cases r <;> simp
theorem line63:(sizeLine:Nat) < 2 ^ 63:=by rw [sizeLine_eq];decide
theorem tru_ok:TruR X (fun x H Q=>∃ k,TruV X.K x H k/\Q k H):=by
 intro pins s σ H x v Q I rx h
 obtain ⟨k,e,q⟩:=h
 have hl:=line63
 have hs:sizeLine=16777216:=sizeLine_eq
 cases x with
 | non =>
  cases rx
  have e':k=false:=e
  subst e'
  exact truthy_none ⟨H,I,q⟩
 | bl b =>
  cases rx
  have e':k=b:=e
  subst e'
  exact wpAny_truthy_bool ⟨H,I,q⟩
 | int i =>
  obtain ⟨t,rfl⟩:=rx
  have e':k=(i != 0):=e
  subst e'
  exact PySem.P.truthy_int ⟨H,I,q⟩
 | str y =>
  obtain ⟨t,rfl⟩:=rx
  obtain ⟨hy,e'⟩:y.length<=sizeLine/\k=((y.length:Int) != 0):=e
  subst e'
  exact PySem.P.truthy_str (by omega) ⟨H,I.tok _,q⟩
 | byt y =>
  obtain ⟨t,rfl⟩:=rx
  obtain ⟨hy,e'⟩:y.size<=sizeLine/\k=((y.size:Int) != 0):=e
  subst e'
  exact PySem.W.truthy_bytes (by omega) ⟨H,I.tok _,q⟩
 | ref p =>
  cases rx
  have e':(∃ xs,SqL X.K H p xs/\k=!xs.isEmpty)\/(∃ xs,SqT X.K H p xs/\k=!xs.isEmpty)\/∃ kvs,H p=some (.dK kvs)/\k=!kvs.isEmpty:=e
  rcases e' with ⟨xs,hx,e'⟩ | ⟨xs,hx,e'⟩ | ⟨kvs,hx,e'⟩
  ·subst e'
   obtain ⟨its,r,pl,hz⟩:=I.list hx
   have hlen:=r.length
   exact wpAny_truthy_list pl.isList (by simp only [List.size_toArray];omega) ⟨H,I.tok _,by rw [isEmpty_of r];exact q⟩
  ·subst e'
   obtain ⟨its,r,pl,hz⟩:=I.tuple hx
   have hlen:=r.length
   exact truthy_tuple pl (by simp only [List.size_toArray];omega) ⟨H,I.tok _,by rw [isEmpty_of r];exact q⟩
  ·subst e'
   obtain ⟨hz,hS,vs,r,m⟩:kvs.length<=sizeLine/\(p == sysModules)=false/\∃ vs,KV kvs vs/\s.heap.DictOf (mixKind X.prog X.w) p vs:=I.hok p _ hx
   have hlen:kvs.length=vs.length:=Paired.length r
   exact wpAny_truthy_dict hS m (by omega) ⟨H,I.tok _,by rw [isEmpty_kv r];exact q⟩
 | _=>exact (show False from e).elim
theorem pt_truth (ha:PE X a ta) (he:∀ whole,isTrue a X.env whole=(do let v <- whole;standAt a.pos;holding [v] (truthy v))) :
  PT X a (fun σ H Q=>ta σ H fun x H'=>∃ k,TruV X.K x H' k/\Q k H'):=by
 intro pins s σ H Q I h
 exact isTrue_plain (thn (ha pins s σ H _ I h) fun v s1 ⟨x,H1,I1,r1,q1⟩=>tru_ok pins s1 σ H1 x v Q I1 r1 q1) (he _)
theorem op_add_str:OpR X (binaryOp .Add) (fun x y H Q=>∃ i j,x=.str i/\y=.str j/\i.length + j.length<=sizeLine/\Q (.str (i++j)) H):=by
 intro pins s σ H x y v u Q I rx ry h
 obtain ⟨i,j,rfl,rfl,hz,q⟩:=h
 obtain ⟨t,rfl⟩:=rx
 obtain ⟨t',rfl⟩:=ry
 exact add_str (fun t' tk=>⟨.str (i++j),H,I.tok _,⟨_,rfl⟩,q⟩) hz
theorem vals1 {x:V} {us:List Value} (r:Vals [x] us):∃ u,us=[u]/\RelV x u:=by
 cases r with
 | cons r1 r2=>cases r2;exact ⟨_,rfl,r1⟩
theorem vals2 {x y:V} {us:List Value} (r:Vals [x,y] us):∃ u w',us=[u,w']/\RelV x u/\RelV y w':=by
 cases r with
 | cons r1 r2 =>
  cases r2 with
  | cons r3 r4=>cases r4;exact ⟨_,_,rfl,r1,r3⟩
theorem call_max2 (hc:X.calm=true):CallR X (.builtin "max") (fun xs H Q=>∃ i j,xs=[.int i,.int j]/\Q (.int (if j > i then j else i)) H):=by
 intro pins s σ H xs us Q I r h
 obtain ⟨i,j,rfl,q⟩:=h
 obtain ⟨u,w',rfl,⟨t,rfl⟩,⟨t',rfl⟩⟩:=vals2 r
 refine max_two_ints (I.ok.hd hc) fun h' tk k=>⟨_,H,I.kept k,?_,q⟩
 by_cases hj:j > i
 ·rw [if_pos hj,if_pos hj];exact ⟨_,rfl⟩
 ·rw [if_neg hj,if_neg hj];exact ⟨_,rfl⟩
theorem call_min2 (hc:X.calm=true):CallR X (.builtin "min") (fun xs H Q=>∃ i j,xs=[.int i,.int j]/\Q (.int (if j < i then j else i)) H):=by
 intro pins s σ H xs us Q I r h
 obtain ⟨i,j,rfl,q⟩:=h
 obtain ⟨u,w',rfl,⟨t,rfl⟩,⟨t',rfl⟩⟩:=vals2 r
 refine min_two_ints (I.ok.hd hc) fun h' tk k=>⟨_,H,I.kept k,?_,q⟩
 by_cases hj:j < i
 ·rw [if_pos hj,if_pos hj];exact ⟨_,rfl⟩
 ·rw [if_neg hj,if_neg hj];exact ⟨_,rfl⟩
theorem call_int1:CallR X (.type "int") (fun xs H Q=>(∃ i,xs=[.int i]/\Q (.int i) H)\/∃ k,xs=[.bl k]/\Q (.int (if k then 1 else 0)) H):=by
 intro pins s σ H xs us Q I r h
 rcases h with ⟨i,rfl,q⟩ | ⟨k,rfl,q⟩
 ·obtain ⟨u,rfl,t,rfl⟩:=vals1 r
  exact call_int_int ⟨.int i,H,I,⟨_,rfl⟩,q⟩
 ·obtain ⟨u,rfl,r1⟩:=vals1 r
  cases r1
  exact call_int_bool ⟨.int (if k then 1 else 0),H,I.tok _,⟨_,rfl⟩,q⟩
theorem call_str_int:CallR X (.type "str") (fun xs H Q=>∃ i,xs=[.int i]/\i.natAbs.log2 < 1920/\Q (.str (toString i)) H):=by
 intro pins s σ H xs us Q I r h
 obtain ⟨i,rfl,hz,q⟩:=h
 obtain ⟨u,rfl,t,rfl⟩:=vals1 r
 exact PySem.P.str_of_int hz ⟨.str _,H,I.tok _,⟨_,rfl⟩,q⟩
end
end L2
namespace L2
open PySem PySem.Spec PyProof.Rows
structure ObjM (h:Heap) (x dx C:Addr) (mA:Str->Option Value):Prop where
 obj:h.get? x=some (PySem.W.instObj C dx)
 ns:h.Ns1 dx mA
 ne:dx ≠ x
theorem lookIn_ns {h:Heap} {dx:Addr} {mA:Str->Option Value} (n:h.Ns1 dx mA):∃ od,h.get? dx=some od/\∀ name,PySem.W.lookIn name od=some (mA name):=by
 obtain ⟨o,es,ep,ho,hd,hk,_,hm⟩:=n
 refine ⟨o,ho,fun name=>?_⟩
 have e:=hm name
 unfold nsFind findBy at e
 rw [<- Array.find?_toList] at e
 unfold PySem.W.lookIn
 rw [hd]
 dsimp only
 split
 ·rename_i y q
  rw [q] at e
  exact congrArg some e
 ·rename_i q
  rw [q] at e
  have a:es.toList.any (·.refKey)=false:=by
   rw [List.any_eq_false]
   intro y hy
   obtain ⟨z,t,hkey⟩:=hk y (Array.mem_toList_iff.mp hy)
   simp [DictEntry.refKey,hkey]
  have a':¬ es.toList.any (·.refKey)=true:=by rw [a];exact Bool.false_ne_true
  rw [if_neg a']
  exact congrArg some e
theorem ObjM.look {h:Heap} {x dx C:Addr} {mA:Str->Option Value} (I:ObjM h x dx C mA):∃ od,PySem.W.InstAt h x (PySem.W.instObj C dx) C (some od)/\∀ name,PySem.W.lookIn name od=some (mA name) :=
 let ⟨od,ho,hl⟩:=lookIn_ns I.ns
 ⟨od,⟨I.obj,rfl,rfl,ho⟩,hl⟩
section
variable {prog:Program} {w:World} {A:Around} {E:Value->Shared->Prop} {s:Shared} {K:PySem.W.Frag} {x dx C f:Addr} {mA:Str->Option Value} {name:Str} {v:Value}
theorem get_map {expr:Bool} {Q:Value->Shared->Prop} (X:K.In s.heap) (I:ObjM s.heap x dx C mA) (hg:PySem.W.plainGet K C name=true) (hh:PySem.W.hasDictIn K C=true)
  (ha:PySem.W.findIn K (.ref C) name=some none) (hv:mA name=some v) (hv':PySem.W.handedIn v=true) (h:Q v { s with toks:=s.toks + 1 }) :
  wpAny (model prog w) A (getAttr (.ref x) name expr) Q E s:=by
 obtain ⟨od,J,hl⟩:=I.look
 exact PySem.W.get_value X J (PySem.W.plainGet_of hg).1 (PySem.W.findObj_own hh ha rfl (by rw [hl,hv])) hv' h
theorem get_meth {pl:Sem Bool} {Q:Value × List Value->Shared->Prop} (X:K.In s.heap) (I:ObjM s.heap x dx C mA) (hg:PySem.W.plainGet K C name=true)
  (hf:PySem.W.findIn K (.ref C) name=some (some (.ref f))) (ht:PySem.W.isFn K (.ref f)=true) (hv:mA name=none) (h:Q (.ref f,[.ref x]) s) :
  wpAny (model prog w) A (getMethod (.ref x) name pl) Q E s:=by
 obtain ⟨od,J,hl⟩:=I.look
 exact PySem.W.method_fn X J (PySem.W.plainGet_of hg).1 (PySem.W.plainGet_of hg).2 hf (beq_iff_eq.mp ht) (by show (PySem.W.lookIn name od).map (·.isSome)=some false;rw [hl,hv];rfl) h
theorem set_map {ns:List Str} {Q:Unit->Shared->Prop} (X:K.In s.heap) (I:ObjM s.heap x dx C mA)
  (hs:PySem.W.findIn K (.ref C) "__setattr__" = some (some (.builtin "object.__setattr__"))) (hp:PySem.W.plainOver K C=true) (ht:PySem.W.takerIn K C name=some none) (hh:PySem.W.hasDictIn K C=true)
  (hw:PySem.Within mA ns) (hsz:ns.length<=sizeLine)
  (h:∀ h',ObjM h' x dx C (fun y=>if y=name then some v else mA y)->Heap.SameBut dx s.heap h'->Q () { s with heap:=h',toks:=s.toks + 2 }) :
  wpAny (model prog w) A (setAttr (.ref x) name v) Q E s:=by
 obtain ⟨od,J,hl⟩:=I.look
 refine PySem.W.set_plain X J hs (PySem.W.osa_open (s:={ s with toks:=s.toks + 1 }) (r:=none) X J hp ht fun b=>?_)
 obtain ⟨cd,hc,hd'⟩:=PySem.W.any_some hh
 have hx:s.heap.get? x=some ⟨.ref C,some dx,.plain,#[]⟩:=I.obj
 refine wpAny_bind (wpAny_pure (wpAny_bind (wpAny_bind (wpAny_loadPart hx (wpAny_bind (PySem.W.Looks.here (s:={ s with toks:=s.toks + 1 }) (PySem.W.looks_clsIn X hc) ?_))))))
 rw [hd']
 refine wpAny_pure (a:=some dx) (wpAny_bind (wpAny_pure (wpAny_bind ?_)))
 refine wpAny_nsSet1 (s:={ s with toks:=s.toks + 1 }) I.ns fun h' hn2 hs2=>?_
 obtain ⟨oD,esD,epD,hoD,hdD,hcD⟩:=hn2.count (PySem.Within.cons name v hw)
 refine wpAny_bind (wpAny_lookBehind hoD (by rw [hdD];exact pastItsLine_dict (Nat.le_trans hcD (by rw [List.length_cons];omega))) ?_)
 exact wpAny_pure (h _ ⟨(hs2.2 _ (Ne.symm I.ne)).trans I.obj,hn2,I.ne⟩ hs2)
theorem make_map {R:Result->Shared->Prop} {vs:List Value} {kw:List (Str × Value)} (X:K.In s.heap) (hm:PySem.W.makesIn K C=true)
  (hi:PySem.W.findIn K (.ref C) "__init__" = some (some (.ref f))) (hf:PySem.W.typeIn K (.ref f)=some (.type "function"))
  (h:codeAny (model prog w) (A.under (.builtin "type.__call__" ⟨.ref C :: vs,kw⟩)) (.call (.ref f) ⟨.ref (s.heap.objs.size + 1) :: vs,kw⟩) (PySem.W.InitBack (s.heap.objs.size + 1) R)
   { s with heap:=(s.heap.push PySem.W.emptyDict).push (PySem.W.instObj C s.heap.objs.size) }) :
  codeAny (model prog w) A (.call (.ref C) ⟨vs,kw⟩) R s:=by
 obtain ⟨hh,g,d,t,os⟩:=s
 exact PySem.W.make_core (PySem.W.makes_of X hm) (PySem.W.looks_findIn X hi) (fun self=>PySem.W.bind_fn X self hf) (.inl rfl) h
end
def putF (f:Str) (v:V):List (Str × V)->List (Str × V)
 | []=>[(f,v)]
 | (g,x) :: r=>if g=f then (g,v) :: r else (g,x) :: putF f v r
theorem lookup_putF (f g:Str) (v:V):∀ fs:List (Str × V),(putF f v fs).lookup g=if g=f then some v else fs.lookup g
 | []=>by
  show List.lookup g [(f,v)]=_
  by_cases h:g=f
  ·have hb:(g == f)=true:=beq_iff_eq.mpr h
   simp only [List.lookup,hb,if_pos h]
  ·have hb:(g == f)=false:=beq_eq_false_iff_ne.mpr h
   simp only [List.lookup,hb,if_neg h]
 | (k,x) :: r=>by
  have ih:=lookup_putF f g v r
  rw [show putF f v ((k,x) :: r)=(if k=f then (k,v) :: r else (k,x) :: putF f v r) from rfl]
  by_cases hk:k=f
  ·rw [if_pos hk]
   by_cases h:g=k
   ·have hb:(g == k)=true:=beq_iff_eq.mpr h
    simp only [List.lookup,hb,if_pos (h.trans hk)]
   ·have hb:(g == k)=false:=beq_eq_false_iff_ne.mpr h
    simp only [List.lookup,hb,if_neg (fun e:g=f=>h (e.trans hk.symm))]
  ·rw [if_neg hk]
   by_cases h:g=k
   ·have hb:(g == k)=true:=beq_iff_eq.mpr h
    simp only [List.lookup,hb,if_neg (fun e:g=f=>hk (h.symm.trans e))]
   ·have hb:(g == k)=false:=beq_eq_false_iff_ne.mpr h
    simp only [List.lookup,hb]
    exact ih
theorem keys_putF (f:Str) (v:V):∀ fs:List (Str × V),f ∈ (putF f v fs).map (·.1)/\∀ g,g ∈ fs.map (·.1)->g ∈ (putF f v fs).map (·.1)
 | []=>⟨by simp [putF],fun g h=>by simp at h⟩
 | (k,x) :: r=>by
  obtain ⟨i1,i2⟩:=keys_putF f v r
  rw [show putF f v ((k,x) :: r)=(if k=f then (k,v) :: r else (k,x) :: putF f v r) from rfl]
  by_cases hk:k=f
  ·rw [if_pos hk]
   subst hk
   exact ⟨by simp,fun g h=>by simpa using h⟩
  ·rw [if_neg hk]
   refine ⟨?_,fun g h=>?_⟩
   ·rw [List.map_cons]
    exact List.mem_cons_of_mem _ i1
   ·rw [List.map_cons] at h ⊢
    rcases List.mem_cons.mp h with e | e
    ·exact List.mem_cons.mpr (.inl e)
    ·exact List.mem_cons_of_mem _ (i2 g e)
theorem length_putF (f:Str) (v:V):∀ fs:List (Str × V),(putF f v fs).length<=fs.length + 1
 | []=>by simp [putF]
 | (k,x) :: r=>by
  have ih:=length_putF f v r
  rw [show putF f v ((k,x) :: r)=(if k=f then (k,v) :: r else (k,x) :: putF f v r) from rfl]
  by_cases hk:k=f
  ·rw [if_pos hk,List.length_cons,List.length_cons];omega
  ·rw [if_neg hk,List.length_cons,List.length_cons];omega
theorem RelO.some_of {v:V} {o:Option Value} (r:RelO (some v) o):∃ u,o=some u/\RelV v u:=by
 cases o with
 | none=>exact (show False from r).elim
 | some u=>exact ⟨u,rfl,r⟩
theorem RelO.none_of {o:Option Value} (r:RelO none o):o=none:=by
 cases o with
 | none=>rfl
 | some u=>exact (show False from r).elim
theorem handed_of {v:V} {u:Value} (r:RelV v u):PySem.W.handedIn u=true:=by
 cases v with
 | non=>cases (show u=Value.none from r);rfl
 | bl b=>cases (show u=Value.bool b from r);rfl
 | int i=>obtain ⟨t,e⟩:=(show ∃ t,u=Value.int i t from r);cases e;rfl
 | str x=>obtain ⟨t,e⟩:=(show ∃ t,u=Value.str x t from r);cases e;rfl
 | byt b=>obtain ⟨t,e⟩:=(show ∃ t,u=Value.bytes b t from r);cases e;rfl
 | flt b=>obtain ⟨t,e⟩:=(show ∃ t,u=Value.float b t from r);cases e;rfl
 | ref a=>cases (show u=Value.ref a from r);rfl
 | ty n=>cases (show u=Value.type n from r);rfl
section
variable {P:Program} {w:World} {H H':Hp} {h h':Heap} {a C dx:Addr} {fs fs':List (Str × V)}
theorem ins_get (hok:HOk P w H h) (e:H a=some (.ins C dx fs)):∃ mA,ObjM h a dx C mA/\(∀ f,RelO (fs.lookup f) (mA f))/\PySem.Within mA (fs.map (·.1))/\fs.length<=1000/\H dx=some (.own a):=by
 obtain ⟨d,z,ne,ob,mA,n,r,q⟩:=(show ObjOk P w H h a (.ins C dx fs) from hok a _ e)
 exact ⟨mA,⟨ob,n,ne⟩,r,q,z,d⟩
end
structure Cls (K:PySem.W.Frag) (C:Addr):Prop where
 pg:PySem.W.plainGet K C Str.empty=true
 hd:PySem.W.hasDictIn K C=true
 po:PySem.W.plainOver K C=true
 sa:PySem.W.findIn K (.ref C) "__setattr__" = some (some (.builtin "object.__setattr__"))
theorem Cls.get {K:PySem.W.Frag} {C:Addr} (c:Cls K C) (f:Str):PySem.W.plainGet K C f=true:=c.pg
def NoAttr (K:PySem.W.Frag) (C:Addr) (f:Str):Prop:=PySem.W.findIn K (.ref C) f=some none
theorem NoAttr.taker {K:PySem.W.Frag} {C:Addr} {f:Str} (n:NoAttr K C f):PySem.W.takerIn K C f=some none:=by
 unfold PySem.W.takerIn
 rw [show PySem.W.findIn K (.ref C) f=some none from n]
 rfl
structure Meth (K:PySem.W.Frag) (C:Addr) (m:Str) (f:Addr):Prop where
 at_:PySem.W.findIn K (.ref C) m=some (some (.ref f))
 fn:PySem.W.isFn K (.ref f)=true
 kp:PySem.W.keepIn K (.ref f)=true
section
variable {X:Cx} {pins:List (Addr × Obj)} {σ:St} {H:Hp} {s:Shared} {a C dx:Addr} {fs:List (Str × V)} {f:Str} {v:V} {A:Around} {E:Value->Shared->Prop}
theorem getattr_ok {b:Bool} {Q:Value->Shared->Prop} (I:Inv X pins σ H s) (e:H a=some (.ins C dx fs)) (c:Cls X.K C) (n:NoAttr X.K C f) (l:fs.lookup f=some v)
  (h:∀ u s',Inv X pins σ H s'->RelV v u->Q u s'):wpAny (model X.prog X.w) A (getAttr (.ref a) f b) Q E s:=by
 obtain ⟨mA,O,r,_,_,_⟩:=ins_get I.hok e
 obtain ⟨u,hu,ru⟩:=RelO.some_of (v:=v) (o:=mA f) (by rw [<- l];exact r f)
 exact get_map I.kIn O (c.get f) c.hd n hu (handed_of ru) (h u _ (I.tok _) ru)
theorem getmeth_ok {m:Str} {g:Addr} {pl:Sem Bool} {Q:Value × List Value->Shared->Prop} (I:Inv X pins σ H s) (e:H a=some (.ins C dx fs)) (c:Cls X.K C) (k:Meth X.K C m g) (l:fs.lookup m=none)
  (h:Q (.ref g,[.ref a]) s):wpAny (model X.prog X.w) A (getMethod (.ref a) m pl) Q E s:=by
 obtain ⟨mA,O,r,_,_,_⟩:=ins_get I.hok e
 have hn:mA m=none:=RelO.none_of (by rw [<- l];exact r m)
 exact get_meth I.kIn O (c.get m) k.at_ k.fn hn h
theorem setattr_ok {y:V} {u:Value} {Q:Unit->Shared->Prop} (I:Inv X pins σ H s) (e:H a=some (.ins C dx fs)) (c:Cls X.K C) (n:NoAttr X.K C f) (hl:fs.length < 1000) (ry:RelV y u)
  (h:∀ s',Inv X pins σ (upd H a (.ins C dx (putF f y fs))) s'->Q () s'):wpAny (model X.prog X.w) A (setAttr (.ref a) f u) Q E s:=by
 obtain ⟨mA,O,r,wi,_,ho⟩:=ins_get I.hok e
 have hz:(fs.map (·.1)).length<=sizeLine:=by rw [List.length_map,sizeLine_eq];omega
 refine set_map I.kIn O c.sa c.po n.taker c.hd wi hz fun h' O' sb=>h _ ?_
 have hd:∃ o,h'.get? dx=some o:=let ⟨o,_,_,e',_⟩:=O'.ns;⟨o,e'⟩
 refine I.write (x:=a) (e:=dx) (by rw [e];exact True.intro) (.inr ho) (fun b q hb z=>(sb.2 b hb).trans z) hd ?_
 refine ⟨by rw [upd_ne O.ne];exact ho,?_,O.ne,O'.obj,_,O'.ns,fun g=>?_,fun g hg=>?_⟩
 ·have:=length_putF f y fs;omega
 ·show RelO ((putF f y fs).lookup g) (if g=f then some u else mA g)
  rw [lookup_putF]
  by_cases q:g=f
  ·rw [if_pos q,if_pos q];exact ry
  ·rw [if_neg q,if_neg q];exact r g
 ·by_cases q:g=f
  ·rw [q];exact (keys_putF f y fs).1
  ·refine (keys_putF f y fs).2 g (wi g fun z=>hg ?_)
   show (if g=f then some u else mA g)=none
   rw [if_neg q];exact z
theorem Inv.made (I:Inv X pins σ H s):Inv X pins σ (upd (upd H s.heap.objs.size (.own (s.heap.objs.size + 1))) (s.heap.objs.size + 1) (.ins C s.heap.objs.size []))
  { s with heap:=(s.heap.push PySem.W.emptyDict).push (PySem.W.instObj C s.heap.objs.size) }:=by
 have e1:(s.heap.push PySem.W.emptyDict).get? s.heap.objs.size=some PySem.W.emptyDict:=Heap.get?_push_size s.heap rfl
 have e2:((s.heap.push PySem.W.emptyDict).push (PySem.W.instObj C s.heap.objs.size)).get? (s.heap.objs.size + 1)=some (PySem.W.instObj C s.heap.objs.size):=by
  have:=Heap.get?_push_size (s.heap.push PySem.W.emptyDict) (o:=PySem.W.instObj C s.heap.objs.size) rfl
  rwa [Heap.size_push] at this
 have e3:(s.heap.push PySem.W.emptyDict).Ns s.heap.objs.size (fun _=>none):=⟨PySem.W.emptyDict,#[],_,e1,rfl,(fun e he=>absurd he (by simp)),fun _=>rfl⟩
 have I1:=I.laid (a:=s.heap.objs.size) (o:=.own (s.heap.objs.size + 1)) (h':=s.heap.push PySem.W.emptyDict) (t':=s.toks) (fun b u q=>Heap.get?_push_of_some _ q) (Nat.le_refl _) ⟨_,e1⟩
 refine I1.laid (a:=s.heap.objs.size + 1) (o:=.ins C s.heap.objs.size []) (t':=s.toks) (fun b u q=>Heap.get?_push_of_some _ q) (Nat.le_of_eq (Heap.size_push _ _)) ?_
 have ne:s.heap.objs.size ≠ s.heap.objs.size + 1:=Nat.ne_of_lt (Nat.lt_succ_self _)
 refine ⟨by rw [upd_ne ne,upd_same],Nat.zero_le _,ne,e2,fun _=>none,(Heap.Ns1.of_empty e3).at fun o q=>Heap.get?_push_of_some _ q,fun _=>True.intro,fun y hy=>absurd rfl hy⟩
theorem attr_of {prog:Program} {w:World} {env:Env} {e:Expr} {f:Str} {pos:Pos} {s:Shared} {Q:Value->Shared->Prop} (hb:attributeBase e f env (eval e env)=eval e env)
  (h:wpAny (model prog w) A (eval e env) (fun o s₁=>wpAny (model prog w) A (getAttr o f true) Q E s₁) E s):wpAny (model prog w) A (eval (.Attribute e f pos) env) Q E s :=
 Attribute_any_ h (by rw [arm_eval_Attribute,hb])
end
def tFld (K:PySem.W.Frag) (ta:TE) (f:Str):TE:=fun σ H Q=>ta σ H fun x H1=>∃ a C dx fs v,x=.ref a/\H1 a=some (.ins C dx fs)/\Cls K C/\NoAttr K C f/\fs.lookup f=some v/\Q v H1
def sFld (K:PySem.W.Frag) (ta tv:TE) (f:Str):TS:=fun D σ H=>tv σ H fun y H1=>ta σ H1 fun x H2=>∃ a C dx fs,x=.ref a/\H2 a=some (.ins C dx fs)/\Cls K C/\NoAttr K C f/\fs.length < 1000 /\
 D.nx σ (upd H2 a (.ins C dx (putF f y fs)))
section
variable {X:Cx} {o e value:Expr} {f:Str} {pos pos' tpos:Pos} {ta tv:TE}
theorem pe_fld (he:PE X e ta) (hb:attributeBase e f X.env (eval e X.env)=eval e X.env):PE X (.Attribute e f pos) (tFld X.K ta f):=by
 intro pins s σ H Q I h
 refine attr_of hb (thn (he pins s σ H _ I h) fun u s1 ⟨x,H1,I1,rx,a,C,dx,fs,v,ex,ea,c,n,l,q⟩=>?_)
 subst ex
 obtain rfl:u=Value.ref a:=rx
 exact getattr_ok I1 ea c n l fun u' s2 I2 ru=>⟨v,H1,I2,ru,q⟩
theorem ps_fld (ha:PE X o ta) (hv:PE X value tv) (hs:swapsWith value (some (.Attribute o f pos')) pos.line X.env=pure false):PS X (.Assign [.Attribute o f pos'] value pos) (sFld X.K ta tv f):=by
 intro pins s σ H D I h
 refine plainObj_wpAny_Assign_Attribute (thn (hv pins s σ H _ I h) fun u s1 ⟨y,H1,I1,ry,q⟩=>thn (ha pins s1 σ H1 _ I1 q) fun ov s2 ⟨x,H2,I2,rx,a,C,dx,fs,ex,ea,c,n,l,q2⟩=>?_) hs
 subst ex
 obtain rfl:ov=Value.ref a:=rx
 exact setattr_ok I2 ea c n l ry fun s3 I3=>⟨σ,_,I3,q2⟩
end
section
variable {X:Cx} {pins:List (Addr × Obj)} {σ:St} {H:Hp} {s:Shared} {A:Around} {E:Value->Shared->Prop} {Q:Value->Shared->Prop} {c:Value} {b:Bool}
inductive TyOf (K:PySem.W.Frag) (H:Hp):V->Value->Prop where
 | non:TyOf K H .non (.type "NoneType")
 | bl (x:Bool):TyOf K H (.bl x) (.type "bool")
 | int (i:Int):TyOf K H (.int i) (.type "int")
 | str (x:Str):TyOf K H (.str x) (.type "str")
 | flt (x:UInt64):TyOf K H (.flt x) (.type "float")
 | lst {a:Addr} {xs:List V} (e:H a=some (.lst xs)):TyOf K H (.ref a) (.type "list")
 | frz {a:Addr} {o:Obj} {xs:List V} (e:H a=some (.frz o (.lst xs))):TyOf K H (.ref a) (.type "list")
 | tup {a:Addr} {xs:List V} (e:H a=some (.tup xs)):TyOf K H (.ref a) (.type "tuple")
 | dK {a:Addr} {kvs:List (Key × V)} (e:H a=some (.dK kvs)):TyOf K H (.ref a) (.type "dict")
 | dT {a:Addr} {kvs:List (List Key × V)} (e:H a=some (.dT kvs)):TyOf K H (.ref a) (.type "dict")
 | ins {a C dx:Addr} {fs:List (Str × V)} (e:H a=some (.ins C dx fs)) (cl:Cls K C) (ha:PySem.W.findIn K (.ref C) "__class__" = some (some (.builtin "object.__class__")))
   (hn:PySem.W.specialIn K (.builtin "object.__class__") "__get__" = some (some (.builtin "getset_descriptor.__get__"))) (htk:PySem.W.takesIn K (.builtin "object.__class__")=some true)
   (hm:PySem.W.mroIn K C (.type "object")=some true):TyOf K H (.ref a) (.ref C)
theorem isinst_ok {x:V} {u t:Value} (I:Inv X pins σ H s) (rx:RelV x u) (ty:TyOf X.K H x t) (e:PySem.W.kitOne X.K t c=some b) (h:∀ tk,Q (.bool b) { s with toks:=tk }) :
  wpAny (model X.prog X.w) A (call (.builtin "isinstance") [u,c]) Q E s:=by
 cases ty with
 | non=>cases (show u=Value.none from rx);exact PySem.W.kia_one PySem.W.kitx_none I.kIn True.intro e (fun z=>nomatch z) h
 | bl y=>cases (show u=Value.bool y from rx);exact PySem.W.kia_one PySem.W.kitx_bool I.kIn True.intro e (fun z=>nomatch z) h
 | int i=>obtain ⟨t,q⟩:=(show ∃ t,u=Value.int i t from rx);cases q;exact PySem.W.kia_one PySem.W.kitx_int I.kIn True.intro e (fun z=>nomatch z) h
 | str y=>obtain ⟨t,q⟩:=(show ∃ t,u=Value.str y t from rx);cases q;exact PySem.W.kia_one PySem.W.kitx_str I.kIn True.intro e (fun z=>nomatch z) h
 | flt y=>obtain ⟨t,q⟩:=(show ∃ t,u=Value.float y t from rx);cases q;exact PySem.W.kia_one PySem.W.kitx_float I.kIn True.intro e (fun z=>nomatch z) h
 | @lst a xs ea =>
  cases (show u=Value.ref a from rx)
  obtain ⟨_,_,n,_,h1⟩:=(show ObjOk X.prog X.w H s.heap a (.lst xs) from I.hok a _ ea)
  exact PySem.W.kia_one PySem.W.kitx_list I.kIn ⟨_,h1,rfl⟩ e (fun z=>nomatch z) h
 | @frz a ob xs ea =>
  cases (show u=Value.ref a from rx)
  obtain ⟨_,_,_,n,_,h1⟩:=(show ObjOk X.prog X.w H s.heap a (.frz ob (.lst xs)) from I.hok a _ ea)
  exact PySem.W.kia_one PySem.W.kitx_list I.kIn ⟨_,h1,rfl⟩ e (fun z=>nomatch z) h
 | @tup a xs ea =>
  cases (show u=Value.ref a from rx)
  obtain ⟨_,_,_,p⟩:=(show ObjOk X.prog X.w H s.heap a (.tup xs) from I.hok a _ ea)
  obtain ⟨o,h1,h2,_⟩:=p
  exact PySem.W.kia_one PySem.W.kitx_tuple I.kIn ⟨o,h1,h2⟩ e (fun z=>nomatch z) h
 | @dK a kvs ea =>
  cases (show u=Value.ref a from rx)
  obtain ⟨_,_,vs,_,p⟩:=(show ObjOk X.prog X.w H s.heap a (.dK kvs) from I.hok a _ ea)
  obtain ⟨o,es,ep,h1,h2,_⟩:=p
  exact PySem.W.kia_one PySem.W.kitx_dict I.kIn ⟨o,h1,h2.1⟩ e (fun z=>nomatch z) h
 | @dT a kvs ea =>
  cases (show u=Value.ref a from rx)
  obtain ⟨_,_,xs,_,o,es,ep,h1,h2,_⟩:=(show ObjOk X.prog X.w H s.heap a (.dT kvs) from I.hok a _ ea)
  exact PySem.W.kia_one PySem.W.kitx_dict I.kIn ⟨o,h1,h2.1⟩ e (fun z=>nomatch z) h
 | @ins a C dx fs ea cl ha hn htk hm =>
  cases (show u=Value.ref a from rx)
  obtain ⟨mA,O,_⟩:=ins_get I.hok ea
  obtain ⟨od,J,_⟩:=O.look
  exact PySem.W.kia_one (PySem.W.kitx_own (cl.get _) cl.hd ha hn htk hm) I.kIn J e (fun z=>nomatch z) h
end
end L2
namespace L2
open PySem PySem.Spec PyProof.Rows
structure Room (k:Nat) (A:Around):Prop where
 hd:A.handled=none
 dp:A.depth + 3 * k + 5 < recursionLimit
 un:A.units + 16 * k + 200 < cLine
 gd:A.guards=some []
theorem Room.mono {j k:Nat} {A:Around} (r:Room k A) (h:j<=k):Room j A:=⟨r.hd,by have:=r.dp;omega,by have:=r.un;omega,r.gd⟩
theorem Room.deeper {k:Nat} {A:Around} (r:Room (k + 1) A) (env:Env):Room k (A.deeper env) :=
 ⟨r.hd,by have:=r.dp;show A.depth + 1 + 3 * k + 5 < _;omega,by have:=r.un;show A.units + 3 + 16 * k + 200 < _;omega,r.gd⟩
theorem make_depth {A:Around} {C:Addr} {us:List Value} {kw:List (Str × Value)}:(A.under (.builtin "type.__call__" ⟨.ref C :: us,kw⟩)).depth=A.depth + 1:=by
 first | rfl | simp [Around.under,Code.weight,Code.isCreation,Code.isGuard,Code.isCaller,Code.frames,Code.isFrame,guardIds]
theorem make_units {A:Around} {C:Addr} {us:List Value} {kw:List (Str × Value)}:(A.under (.builtin "type.__call__" ⟨.ref C :: us,kw⟩)).units=A.units + 1:=by
 first | rfl | simp [Around.under,Code.cUnits,Code.frames,Code.isFrame]
theorem Room.make {k:Nat} {A:Around} (r:Room (k + 1) A) (C:Addr) (us:List Value) (kw:List (Str × Value)):Room k (A.under (.builtin "type.__call__" ⟨.ref C :: us,kw⟩)) :=
 ⟨r.hd,by have:=r.dp;rw [make_depth];omega,by have:=r.un;rw [make_units];omega,(show (A.under _).guards=A.guards by first | rfl | simp [Around.under,Code.isGuard,guardIds]).trans r.gd⟩
theorem Room.depth {k:Nat} {A:Around} (r:Room k A):A.depth < recursionLimit:=by have:=r.dp;omega
def tNil:TA:=fun _ H Q=>Q [] H
def tCons (ta:TE) (tr:TA):TA:=fun σ H Q=>ta σ H fun x H1=>tr σ H1 fun xs H2=>Q (x :: xs) H2
section
variable {X:Cx} {e:Expr} {es:List Expr} {te:TE} {t:TA} {pos:Pos}
theorem pa_nil:PA X [] tNil:=fun _ _ _ _ H Q I h=>Calls.spliced_nil ⟨[],H,I,.nil,h⟩
theorem pa_cons (ha:PE X e te) (hr:PA X es t) (hs:starEach (e :: es) X.env=(false,eval e X.env) :: starEach es X.env:=by rfl):PA X (e :: es) (tCons te t):=by
 intro pos pins s σ H Q I h
 rw [hs]
 show wpAny _ _ (spliced ((false,eval e X.env) :: backTo pos (starEach es X.env))) _ _ s
 refine Calls.spliced_cons (thn (ha pins s σ H _ I h) fun u s1 ⟨x,H1,I1,r1,q1⟩=>?_)
 exact thn (hr pos pins s1 σ H1 _ I1 q1) fun us s2 ⟨xs,H2,I2,r2,q2⟩=>⟨x :: xs,H2,I2,.cons r1 r2,q2⟩
def tTup (t:TA):TE:=fun σ H Q=>t σ H fun xs H1=>xs.length<=sizeLine/\∀ p,H1 p=none->Q (.ref p) (upd H1 p (.tup xs))
def tLst (t:TA):TE:=fun σ H Q=>t σ H fun xs H1=>xs.length<=sizeLine/\∀ p,H1 p=none->Q (.ref p) (upd H1 p (.lst xs))
theorem pe_tup {x1} (h:PA X es t):PE X (.Tuple es x1 pos) (tTup t):=by
 intro pins s σ H Q I hq
 refine wpAny_Tuple_spliced (thn (h pos pins s σ H _ I hq) fun us s1 ⟨xs,H1,I1,r,z,q⟩=>⟨by rw [<- r.length];exact z,?_⟩)
 have hf:H1 s1.heap.objs.size=none:=I1.hok.fresh (Nat.le_refl _)
 refine ⟨.ref s1.heap.objs.size,upd H1 s1.heap.objs.size (.tup xs),I1.laid (t':=s1.toks) (fun b u e=>Heap.get?_push_of_some _ e) (Nat.le_refl _) ?_,rfl,q _ hf⟩
 exact ⟨z,us,r,⟨_,Heap.get?_push_size _ rfl,rfl,_,rfl⟩⟩
theorem pe_lst (h:PA X es t):PE X (.List es pos) (tLst t):=by
 intro pins s σ H Q I hq
 refine wpAny_List_spliced (thn (h pos pins s σ H _ I hq) fun us s1 ⟨xs,H1,I1,r,z,q⟩=>⟨by rw [<- r.length];exact z,?_⟩)
 have hf:H1 s1.heap.objs.size=none:=I1.hok.fresh (Nat.le_refl _)
 refine ⟨.ref s1.heap.objs.size,upd H1 s1.heap.objs.size (.lst xs),I1.laid (t':=s1.toks) (fun b u e=>Heap.get?_push_of_some _ e) (Nat.le_refl _) ?_,rfl,q _ hf⟩
 exact ⟨z,us,0,r,Heap.get?_push_size _ rfl⟩
end
abbrev Sp:=List V->Hp->VK->XK->Prop
abbrev CXT:=List Env->Hp->Shared->XK->Value->Shared->Prop
structure Env0 (P:Program) (w:World) (K:PySem.W.Frag) (mg:Str->Option Value) (base:Heap) (A:Around) (outer:List Env) (s:Shared) (H:Hp):Prop where
 frames:A.frames=some outer
 mod:Mod K mg base
 bs:∀ b o,base.get? b=some o->s.heap.get? b=some o/\H b=none
 bsz:base.objs.size<=s.heap.objs.size
 funs:s.heap.FunFrames base outer
 frf:∀ b ∈ frs outer,H b=none
 hok:HOk P w H s.heap
 bare:AllBare s.gens
def CE (outer:List Env) (P:Program) (w:World) (H:Hp) (s:Shared) (Q:VK) (u:Value) (s':Shared):Prop :=
 ∃ v H',s'.os=s.os/\AllBare s'.gens/\Un (frs outer) [] H H' s.heap s'.heap/\HOk P w H' s'.heap/\RelV v u/\Q v H'
def CR (CX:CXT) (outer:List Env) (P:Program) (w:World) (H:Hp) (s:Shared) (Q:VK) (E:XK) (r:Result) (s':Shared):Prop :=
 match r with
 | .ok (.ret u)=>CE outer P w H s Q u s'
 | .ok _=>False
 | .error e=>CX outer H s E e s'
structure FnOk (P:Program) (w:World) (K:PySem.W.Frag) (mg:Str->Option Value) (base:Heap) (CX:CXT) (k:Nat) (f:Addr) (fd:FuncData) (ps:List Str) (sp:Sp):Prop where
 len:∀ vs H Q E,sp vs H Q E->vs.length=ps.length
 run:∀ (A:Around) (outer:List Env) (s:Shared) (H:Hp) (args:Args) (us:List Value) (vs:List V) (Q:VK) (E:XK),Room k A->Env0 P w K mg base A outer s H->BindsTo s fd args (ps.zip us)->Vals vs us->sp vs H Q E ->
  codeAny (model P w) A (.call (.ref f) args) (CR CX outer P w H s Q E) s
theorem Env0.make {P:Program} {w:World} {K:PySem.W.Frag} {mg:Str->Option Value} {base:Heap} {A:Around} {outer:List Env} {s:Shared} {H:Hp} (e:Env0 P w K mg base A outer s H) (C:Addr) (us:List Value) (kw:List (Str × Value)) :
  Env0 P w K mg base (A.under (.builtin "type.__call__" ⟨.ref C :: us,kw⟩)) outer s H:=⟨by first | exact e.frames | (simpa [Around.under,Code.envs,Code.isFrame,pushEnvs] using e.frames),e.mod,e.bs,e.bsz,e.funs,e.frf,e.hok,e.bare⟩
section
variable {X:Cx} {pins:List (Addr × Obj)} {σ:St} {H:Hp} {s s':Shared}
theorem Inv.env0 (I:Inv X pins σ H s):Env0 X.prog X.w X.K X.mg X.base X.A X.stack s H :=
 ⟨I.ok.frames,I.ok.mod,I.bs,Nat.le_trans I.ok.bsz I.sz,I.stack,I.stkFree,I.hok,I.bare⟩
theorem Inv.after {Q:VK} {u:Value} (I:Inv X pins σ H s) (h:CE X.stack X.prog X.w H s Q u s'):EP X pins σ Q u s':=by
 obtain ⟨v,H',os,bare,un,hok,r,q⟩:=h
 obtain ⟨hh,g,d,t,os'⟩:=s'
 obtain rfl:os'=s.os:=os
 exact ⟨v,H',I.call (h':=hh) (g':=g) (d':=d) (t':=t) (ch:=[]) un hok bare (fun b z=>absurd z (by simp)),r,q⟩
end
def tMake (C:Addr) (sp:Sp) (dvs:List V) (E:XK) (t:TA):TE:=fun σ H Q=>t σ H fun vs H1=>∀ x dx,H1 x=none->H1 dx=none->dx ≠ x ->
 sp (.ref x :: (vs++dvs)) (upd (upd H1 dx (.own x)) x (.ins C dx [])) (fun v H2=>v=.non/\Q (.ref x) H2) E
def Binds (K:PySem.W.Frag) (fd:FuncData) (ps:List Str) (ds:List Value):Prop :=
 ∀ (s:Shared) (us:List Value),K.In s.heap->(us++ds).length=ps.length->BindsTo s fd ⟨us,[]⟩ (ps.zip (us++ds))
theorem Binds.all {K:PySem.W.Frag} {fd:FuncData} {ps:List Str} (h:∀ us:List Value,us.length=ps.length->bindArgs fd ⟨us,[]⟩=pure (ps.zip us)):Binds K fd ps []:=fun s us _ hl=>by
 rw [List.append_nil] at hl ⊢
 exact .of_eq (h us hl)
def Passes (CX:CXT) (X:Cx) (E:XK):Prop:=∀ (pins:List (Addr × Obj)) (σ:St) (H:Hp) (s:Shared) (e:Value) (s':Shared),Inv X pins σ H s->CX X.stack H s E e s'->X.xe e s'
section
variable {X:Cx} {CX:CXT} {k:Nat} {f C:Addr} {fd:FuncData} {ps:List Str} {sp:Sp} {dvs:List V} {ds:List Value} {E:XK} {x m:Str} {p pos apos:Pos} {e o:Expr} {es:List Expr} {ta:TE} {t:TA}
structure Mk (K:PySem.W.Frag) (C f:Addr):Prop where
 makes:PySem.W.makesIn K C=true
 init:PySem.W.findIn K (.ref C) "__init__" = some (some (.ref f))
 fn:PySem.W.isFn K (.ref f)=true
 kp:PySem.W.keepIn K (.ref C)=true
theorem run_make {pins:List (Addr × Obj)} {σ:St} {H:Hp} {s:Shared} {Q:VK} {us:List Value} {vs:List V} (M:Mk X.K C f) (F:FnOk X.prog X.w X.K X.mg X.base CX k f fd ps sp) (hr:Room (k + 1) X.A) (hb:Binds X.K fd ps ds) (hd:Vals dvs ds)
  (hx:Passes CX X E) (I:Inv X pins σ H s) (r:Vals vs us)
  (h:∀ x dx,H x=none->H dx=none->dx ≠ x->sp (.ref x :: (vs++dvs)) (upd (upd H dx (.own x)) x (.ins C dx [])) (fun v H2=>v=.non/\Q (.ref x) H2) E) :
  wpAny (model X.prog X.w) X.A (call (.ref C) us) (EP X pins σ Q) X.xe s:=by
 have hq:=h (s.heap.objs.size + 1) s.heap.objs.size (I.hok.fresh (Nat.le_succ _)) (I.hok.fresh (Nat.le_refl _)) (Nat.ne_of_lt (Nat.lt_succ_self _))
 have I2:=Inv.made (C:=C) I
 have r2:Vals (V.ref (s.heap.objs.size + 1) :: (vs++dvs)) (Value.ref (s.heap.objs.size + 1) :: (us++ds)):=.cons rfl (r.append hd)
 have hl:(Value.ref (s.heap.objs.size + 1) :: us++ds).length=ps.length:=by
  have e:=r2.length
  rw [F.len _ _ _ _ hq] at e
  exact e.symm
 refine wpAny_call (make_map (f:=f) I.kIn M.makes M.init (beq_iff_eq.mp M.fn) (codeAny_mono (F.run _ X.stack _ _ ⟨Value.ref (s.heap.objs.size + 1) :: us,[]⟩ (Value.ref (s.heap.objs.size + 1) :: (us++ds)) _ _ E (hr.make C us [])
  (I2.env0.make C us []) (hb _ (Value.ref (s.heap.objs.size + 1) :: us) I2.kIn hl) r2 hq) fun r s' hq'=>?_))
 cases r with
 | error e=>exact hx pins σ _ _ e s' I2 hq'
 | ok fl =>
  cases fl with
  | ret u =>
   obtain ⟨v,H',I3,rv,ev,q3⟩:=I2.after hq'
   subst ev
   exact ⟨rv,⟨V.ref (s.heap.objs.size + 1),H',I3,rfl,q3⟩⟩
  | next=>exact False.elim hq'
  | brk=>exact False.elim hq'
  | cont=>exact False.elim hq'
theorem pe_make0 (M:Mk X.K C f) (F:FnOk X.prog X.w X.K X.mg X.base CX k f fd ps sp) (hr:Room (k + 1) X.A) (hg:Gl X x) (hm:X.mg x=some (.ref C)) (hb:Binds X.K fd ps ds) (hd:Vals dvs ds) (hx:Passes CX X E)
  (hdb:(x == ("__debug__" : Str))=false:=by decide):PE X (.Call (.Name x p) [] [] pos) (tMake C sp dvs E tNil):=by
 intro pins s σ H Q I h
 refine wpAny_Call_Name_kw (ld_glob I hg hm ?_ hdb)
 exact PySem.W.callWith_K0 I.kIn M.kp (run_make (us:=[]) M F hr hb hd hx I .nil h)
end
def PK (X:Cx) (kws:List Keyword) (t:TA):Prop :=
 ∀ (pos:Pos) (pins:List (Addr × Obj)) (s:Shared) (σ:St) (H:Hp) (Q:List V->Hp->Prop),Inv X pins σ H s->t σ H Q->wpAny (model X.prog X.w) X.A (evalAll ((backToKw pos (keywordEach kws X.env)).map (·.2))) (AP X pins σ Q) X.xe s
section
variable {X:Cx} {CX:CXT} {k:Nat} {f C:Addr} {fd:FuncData} {ps ks:List Str} {sp:Sp} {E:XK} {x m:Str} {p pos apos kpos:Pos} {e o:Expr} {es:List Expr} {kws:List Keyword} {te ta:TE} {t tk:TA} {nm:Option Str}
theorem pk_nil:PK X [] tNil:=fun _ _ _ _ H Q I h=>wpAny_evalAll_nil ⟨[],H,I,.nil,h⟩
theorem pk_cons (ha:PE X e te) (hr:PK X kws t):PK X (⟨nm,e,kpos⟩ :: kws) (tCons te t):=by
 intro pos pins s σ H Q I h
 show wpAny _ _ (evalAll ((do let v <- eval e X.env;standAt pos;pure v) :: (backToKw pos (keywordEach kws X.env)).map (·.2))) _ _ s
 refine wpAny_evalAll_cons (wpAny_bind (thn (ha pins s σ H _ I h) fun u s1 ⟨x,H1,I1,r1,q1⟩=>wpAny_bind (wpAny_standAt (wpAny_pure ?_))))
 exact thn (hr pos pins s1 σ H1 _ I1 q1) fun us s2 ⟨xs,H2,I2,r2,q2⟩=>⟨x :: xs,H2,I2,.cons r1 r2,q2⟩
variable {g:List Value->List Value->List Value} {gV:List V->List V->List V}
end
structure FnScope (N P:List Str) (sc:Scope):Prop where
 kind:sc.kind=.function
 co:sc.isCoroutine=false
 gen:sc.isGenerator=false
 nd:N.Nodup
 pre:N.take P.length=P
 par:∀ x ∈ P,sc.names.lookup x=some .local\/sc.names.lookup x=some .cell
 nofree:∀ y ∈ sc.names,y.2 ≠ .free
theorem bindL_out {kindOf:Str->Option NameKind} {x:Str}:∀ {binds:List (Str × Value)} {m:Str->Option Value},(∀ v,(x,v) ∉ binds)->bindL kindOf binds m x=m x
 | [],_,_=>rfl
 | (n,v) :: r,m,h=>by
  unfold bindL
  rw [bindL_out fun w hw=>h w (List.mem_cons_of_mem _ hw)]
  split
  ·have:x ≠ n:=by rintro rfl;exact h v List.mem_cons_self
   simp [this]
  ·rfl
theorem bindC_out {kindOf:Str->Option NameKind} {x:Str}:∀ {binds:List (Str × Value)} {m:Str->Option Value},(∀ v,(x,v) ∉ binds)->bindC kindOf binds m x=m x
 | [],_,_=>rfl
 | (n,v) :: r,m,h=>by
  unfold bindC
  rw [bindC_out fun w hw=>h w (List.mem_cons_of_mem _ hw)]
  split
  ·rfl
  ·have:x ≠ n:=by rintro rfl;exact h v List.mem_cons_self
   simp [this]
theorem bindL_get {kindOf:Str->Option NameKind} {x:Str} {v:Value}:∀ {P:List Str} {vs:List Value} {i:Nat} {m:Str->Option Value},P.Nodup->P[i]?=some x->vs[i]?=some v->kindOf x=some .local ->
  bindL kindOf (P.zip vs) m x=some v
 | [],_,_,_,_,h,_,_=>by simp at h
 | _ :: _,[],_,_,_,_,h,_=>by simp at h
 | p :: P,w :: vs,0,m,nd,h1,h2,hk=>by
  simp at h1 h2;subst h1;subst h2
  show bindL kindOf ((p,w) :: P.zip vs) m p=_
  unfold bindL
  rw [bindL_out fun v hv=>(List.nodup_cons.mp nd).1 (List.of_mem_zip hv).1,if_pos hk]
  simp
 | p :: P,w :: vs,i + 1,m,nd,h1,h2,hk=>by
  show bindL kindOf ((p,w) :: P.zip vs) m x=_
  unfold bindL
  exact bindL_get (i:=i) (List.nodup_cons.mp nd).2 (by simpa using h1) (by simpa using h2) hk
theorem bindC_get {kindOf:Str->Option NameKind} {x:Str} {v:Value}:∀ {P:List Str} {vs:List Value} {i:Nat} {m:Str->Option Value},P.Nodup->P[i]?=some x->vs[i]?=some v->kindOf x ≠ some .local ->
  bindC kindOf (P.zip vs) m x=some v
 | [],_,_,_,_,h,_,_=>by simp at h
 | _ :: _,[],_,_,_,_,h,_=>by simp at h
 | p :: P,w :: vs,0,m,nd,h1,h2,hk=>by
  simp at h1 h2;subst h1;subst h2
  show bindC kindOf ((p,w) :: P.zip vs) m p=_
  unfold bindC
  rw [bindC_out fun v hv=>(List.nodup_cons.mp nd).1 (List.of_mem_zip hv).1,if_neg hk]
  simp
 | p :: P,w :: vs,i + 1,m,nd,h1,h2,hk=>by
  show bindC kindOf ((p,w) :: P.zip vs) m x=_
  unfold bindC
  exact bindC_get (i:=i) (List.nodup_cons.mp nd).2 (by simpa using h1) (by simpa using h2) hk
def start (N:List Str) (vs:List V):St:=vs.map some++List.replicate (N.length - vs.length) none
def cxOf (CX:CXT) (P:Program) (w:World) (K:PySem.W.Frag) (mg:Str->Option Value) (base:Heap) (N:List Str) (qual:Str) (scope:Scope) (f:Addr) (cd:Value) (A:Around) (outer:List Env) (s:Shared) (H:Hp) (E:XK):Cx where
 prog:=P
 w:=w
 K:=K
 mg:=mg
 base:=base
 A:=A.deeper (envOfC qual scope s.heap.objs.size f cd)
 N:=N
 s₀:=s
 H₀:=H
 env:=envOfC qual scope s.heap.objs.size f cd
 outer:=outer
 stack:=envOfC qual scope s.heap.objs.size f cd :: outer
 ex:=[]
 calm:=true
 fn:=fun _=>true
 pn:=[]
 xe:=fun e s'=>wpAny (model P w) (A.deeper (envOfC qual scope s.heap.objs.size f cd)) (leaving (envOfC qual scope s.heap.objs.size f cd) e) (fun _ s''=>CX outer H s E e s'') (fun e' s''=>CX outer H s E e' s'') s'
theorem cell_has {sc:Scope} {n:Nat} {x:Str} (h:sc.names.lookup x=some .cell):∃ c,(cellsFrom n sc.names []).lookup x=some c:=by
 have q:=PySem.W.cellsFrom_some sc.names n [] (.inl h)
 exact Option.isSome_iff_exists.mp q
theorem inv_start {CX:CXT} {P:Program} {w:World} {K:PySem.W.Frag} {mg:Str->Option Value} {base:Heap} {N ps:List Str} {qual:Str} {scope:Scope} {f:Addr} {cd:Value} {A:Around} {outer:List Env} {s s1:Shared} {H:Hp} {E:XK} {us:List Value} {vs:List V}
  (S:FnScope N ps scope) (hd:A.handled=none) (e0:Env0 P w K mg base A outer s H) (hl:vs.length=ps.length) (r:Vals vs us)
  (x:InCallC s s.heap.objs.size (bindL (envOfC qual scope s.heap.objs.size f cd).kindOf (ps.zip us) fun _=>none) (cellsFrom (s.heap.objs.size + 1) scope.names []) (bindC (envOfC qual scope s.heap.objs.size f cd).kindOf (ps.zip us) fun _=>none) s1) :
  Inv (cxOf CX P w K mg base N qual scope f cd A outer s H E) [] (start N vs) H s1:=by
 have hpl:ps.length<=N.length:=by have:=congrArg List.length S.pre;rw [List.length_take] at this;omega
 obtain ⟨h1,tk,rfl,hk⟩:=x.done
 have noA:∀ b:Addr,b ∉ (cxOf CX P w K mg base N qual scope f cd A outer s H E).ex:=fun b z=>absurd (show b ∈ ([]:List Addr) from z) (by simp)
 refine ⟨⟨e0.mod,S.kind,rfl,rfl,Nat.le_refl _,fun y z c h1 h2=>?_,fun y hy=>?_,fun y c _ h=>?_,fun _=>hd,Around.frames_deeper e0.frames,.inr ⟨rfl,rfl⟩,fun b z=>absurd z (noA b),e0.bs,e0.bsz,fun b _ _=>noA b,fun b z=>absurd z (noA b),e0.funs,e0.frf⟩,
  rfl,e0.bare,Un.kept hk,⟨_,x.toInCall.ns,fun i y v h1 h2 h3=>?_⟩,fun y c h=>⟨_,x.cell y c h⟩,e0.hok.fresh (Nat.le_refl _),fun y c h=>?_,fun p hp=>absurd (show p ∈ ([]:List (Addr × Obj)) from hp) (by simp),e0.hok.kept hk,?_⟩
 ·exact name_of_addr x.apart (PySem.mem_of_lookup h1) (PySem.mem_of_lookup h2)
 ·have hy:scope.names.lookup y=some .cell\/scope.names.lookup y=some .free:=hy
  rcases hy with hy | hy
  ·exact cell_has hy
  ·exact absurd rfl (S.nofree _ (PySem.mem_of_lookup hy))
 ·exact Nat.le_of_lt (x.above y c (PySem.mem_of_lookup h))
 ·have hi:i < vs.length:=by
   unfold start at h2
   by_cases hi:i < vs.length
   ·exact hi
   ·rw [List.getElem?_append_right (by simpa using hi)] at h2
    rw [List.getElem?_replicate] at h2
    split at h2 <;> cases h2
  have ha:vs[i]?=some v:=by
   unfold start at h2
   rw [List.getElem?_append_left (by simpa using hi),List.getElem?_map] at h2
   cases e:vs[i]? with
   | none=>rw [e] at h2;cases h2
   | some a=>rw [e] at h2;cases h2;rfl
  obtain ⟨u,hu,rv⟩:=r.get ha
  have hp:ps[i]?=some y:=by
   rw [<- S.pre,List.getElem?_take_of_lt (by omega)];exact h1
  have ndP:ps.Nodup:=by rw [<- S.pre];exact S.nd.sublist (List.take_sublist _ _)
  refine ⟨u,rv,?_⟩
  rcases S.par y (List.mem_of_getElem? hp) with k | k
  ·exact .inl ⟨k,bindL_get ndP hp hu k⟩
  ·obtain ⟨c,e⟩:=cell_has (n:=s.heap.objs.size + 1) k
   refine .inr ⟨.inl k,c,e,?_⟩
   have q:=x.cell y c e
   rw [bindC_get ndP hp hu (by show scope.names.lookup y ≠ _;rw [k];decide)] at q
   exact q
 ·exact e0.hok.fresh (Nat.le_of_lt (x.above y c (PySem.mem_of_lookup h)))
 ·unfold start
  show _=N.length
  rw [List.length_append,List.length_map,List.length_replicate]
  omega
theorem fn_of {CX:CXT} {P:Program} {w:World} {K:PySem.W.Frag} {mg:Str->Option Value} {base:Heap} {k:Nat} {f:Addr} {name qual:Str} {params:Arguments} {body:List Stmt} {scope:Scope} {dV kV doc pm cdv ct oc:Value} {an od:Option Addr}
  {osl:Array (Option Value)} {N ps:List Str} {sp:Sp} (lk:K.lookup f=some ⟨oc,od,.func (PySem.W.fnOf name qual params body scope dV kV doc pm an cdv ct),osl⟩) (hcd:PySem.W.codeIn K cdv qual=true) (S:FnScope N ps scope)
  (len:∀ vs H Q E,sp vs H Q E->vs.length=ps.length)
  (hbody:∀ (A:Around) (outer:List Env) (s:Shared) (H:Hp) (vs:List V) (Q:VK) (E:XK),Room k (A.deeper (envOfC qual scope s.heap.objs.size f cdv))->sp vs H Q E ->
   ∃ t,PSs (cxOf CX P w K mg base N qual scope f cdv A outer s H E) body t/\t { nx:=fun _ H'=>Q .non H',rt:=Q } (start N vs) H) :
  FnOk P w K mg base CX (k + 1) f (PySem.W.fnOf name qual params body scope dV kV doc pm an cdv ct) ps sp:=by
 refine ⟨len,fun A outer s H args us vs Q E hr e0 hb r hsp=>?_⟩
 have hl:=len _ _ _ _ hsp
 have KX:K.In s.heap:=e0.mod.kin.keeps fun b o e=>(e0.bs b o e).1
 have lim:s.heap.NoLimit:=e0.mod.nolimit.keeps fun b o e=>(e0.bs b o e).1
 have hkind:∀ y ∈ ps.zip us,scope.names.lookup y.1=some .local\/(scope.names.lookup y.1=some .cell/\((cellsFrom (s.heap.objs.size + 1) scope.names []).lookup y.1).isSome=true):=fun ⟨n,v⟩ hy=>by
  rcases S.par n (List.of_mem_zip hy).1 with q | q
  ·exact .inl q
  ·exact .inr ⟨q,PySem.W.cellsFrom_some _ _ _ (.inl q)⟩
 refine codeAny_call_function hr.depth (KX _ _ lk) rfl S.co S.gen rfl (PySem.W.codeRec_of KX hcd) (hb _ _ _ _ ?_)
 refine wpAny_newFunctionEnv_cells S.kind hkind fun env he s1 x=>?_
 subst he
 refine ⟨lim.keeps x.toInCall.keep,codeAny_func ?_⟩
 obtain ⟨t,ht,hq⟩:=hbody A outer s H vs Q E (hr.deeper _) hsp
 have I:Inv (cxOf CX P w K mg base N qual scope f cdv A outer s H E) [] (start N vs) H s1:=inv_start S hr.hd e0 hl r x
 refine wpAny_mono (ht [] s1 (start N vs) H _ I hq) (fun fl s' hs=>?_) fun e s' hs=>hs
 have fin:∀ {σ':St} {H':Hp} {v:V} {u:Value},Inv (cxOf CX P w K mg base N qual scope f cdv A outer s H E) [] σ' H' s'->RelV v u->Q v H'->CE outer P w H s Q u s' :=
  fun {σ' H' v u} J rv q=>⟨v,H',J.os,J.bare,J.base,J.hok,rv,q⟩
 cases fl with
 | ret u =>
  obtain ⟨v,σ',H',J,rv,q⟩:=hs
  exact fin J rv q
 | next =>
  obtain ⟨σ',H',J,q⟩:=hs
  exact fin (v:=V.non) (u:=Value.none) J rfl q
 | brk =>
  obtain ⟨_,_,_,q⟩:=hs
  exact False.elim q
 | cont =>
  obtain ⟨_,_,_,q⟩:=hs
  exact False.elim q
end L2
namespace L2
open PySem PySem.Spec PyProof.Rows
section
variable {X:Cx} {x:Str} {p pos:Pos} {e:Expr} {es:List Expr} {t:TA} {id T:String} {r:List V->Hp->VK->Prop}
def tCB (r:List V->Hp->VK->Prop) (t:TA):TE:=fun σ H Q=>t σ H fun vs H1=>r vs H1 Q
theorem pe_callB (hc:CallR X (.builtin id) r) (hg:Gl X x) (hm:X.mg x=none) (hv:bootBuiltins x=some (.builtin id)) (ha:PA X (e :: es) t) (hn:x ≠ "__name__" := by decide) (hdb:(x == ("__debug__" : Str))=false:=by decide)
  (he:starEach (e :: es) X.env=(false,eval e X.env) :: starEach es X.env:=by rfl) (hpl:(backTo pos (starEach es X.env)).any (·.1)=false:=by rfl):PE X (.Call (.Name x p) (e :: es) [] pos) (tCB r t):=by
 intro pins s σ H Q I h
 refine wpAny_Call_Name_kw (ld_blt I hg hm hv ?_ hn hdb)
 exact PyProof.Rows.callWith_builtin1 (thn (ha pos pins s σ H _ I h) fun us s1 ⟨vs,H1,I1,r1,q1⟩=>hc pins s1 σ H1 vs us Q I1 r1 q1) he hpl
theorem pe_callTy (hc:CallR X (.type T) r) (hg:Gl X x) (hm:X.mg x=none) (hv:bootBuiltins x=some (.type T)) (ha:PA X (e :: es) t) (hn:x ≠ "__name__" := by decide) (hdb:(x == ("__debug__" : Str))=false:=by decide)
  (he:starEach (e :: es) X.env=(false,eval e X.env) :: starEach es X.env:=by rfl) (hpl:(backTo pos (starEach es X.env)).any (·.1)=false:=by rfl):PE X (.Call (.Name x p) (e :: es) [] pos) (tCB r t):=by
 intro pins s σ H Q I h
 refine wpAny_Call_Name_kw (ld_blt I hg hm hv ?_ hn hdb)
 exact PyProof.Rows.callWith_type1 (thn (ha pos pins s σ H _ I h) fun us s1 ⟨vs,H1,I1,r1,q1⟩=>hc pins s1 σ H1 vs us Q I1 r1 q1) he hpl
end
end L2
namespace HT
open PySem PyProof.Rows
section
open PySem.SeqAt
open PySem.AutoSeq1 (wpAny_loadPart')
open PySem.MeetsSeq PySem.MeetsSeq2 PySem.MeetsSeq3
end
section
variable {prog:Program} {w:World} {A:Around} {E:Value->Shared->Prop} {s:Shared}
theorem cat_tup {t b:Addr} {vs ws:List Value} {Q:Value->Shared->Prop} (ht:IsTup s.heap t vs.toArray) (hb:IsTup s.heap b ws.toArray) (hv:vs ≠ [])
  (h1:ws=[]->Q (.ref t) s) (h2:ws ≠ []->Q (.ref s.heap.objs.size) { s with heap:=s.heap.push { cls:=.type "tuple",data:=.seq (vs++ws).toArray } })
  (hsz:vs.length + ws.length<=sizeLine):wpAny (model prog w) A (binaryOp .Add (.ref t) (.ref b)) Q E s:=by
 obtain ⟨⟨cls,dd,data,sl⟩,ho,hc,n,hd⟩:=id ht
 obtain ⟨⟨cls2,dd2,data2,sl2⟩,ho2,hc2,n2,hd2⟩:=id hb
 simp only at hc hd hc2 hd2
 subst hc hd hc2 hd2
 have e:vs.toArray++ws.toArray=(vs++ws).toArray:=by simp
 by_cases hw:ws=[]
 ·exact concat_meets ⟨_,ho,rfl⟩ ⟨_,ho2,rfl⟩ noFill_tuple_add seq_tuple_add PySem.F.slot_tuple_add PySem.F.entry_tuple_add (PySem.F.args_tuple_add_2 _ _)
   (tuple_addW1 t b vs.toArray ws.toArray n n2 dd dd2 sl sl2 (by simpa using hv) (by simp [hw])) ⟨ho,ho2,h1 hw⟩
 ·refine concat_meets ⟨_,ho,rfl⟩ ⟨_,ho2,rfl⟩ noFill_tuple_add seq_tuple_add PySem.F.slot_tuple_add PySem.F.entry_tuple_add (PySem.F.args_tuple_add_2 _ _)
   (tuple_addW2 t b vs.toArray ws.toArray n n2 dd dd2 sl sl2 (by simpa using hv) (by simpa using hw) (by rw [List.size_toArray,List.size_toArray];exact hsz)) ⟨ho,ho2,?_⟩
  rw [e]
  exact h2 hw
def sIx (n d:Nat):Option Int->Nat
 | none=>d
 | some v=>if v < 0 then (v + (n:Int)).toNat else min v.toNat n
theorem sIx_le (n d:Nat) (hd:d<=n) (o:Option Int):sIx n d o<=n:=by
 cases o with
 | none=>exact hd
 | some v =>
  show (if v < 0 then (v + (n:Int)).toNat else min v.toNat n)<=n
  by_cases hv:v < 0
  ·rw [if_pos hv];omega
  ·rw [if_neg hv];exact Nat.min_le_right _ _
theorem clip_eq (v:Int) (n d:Nat):(if v < 0 then max (v + (n:Int)) 0 else min v (n:Int))=((sIx n d (some v):Nat):Int):=by
 show (if v < 0 then max (v + (n:Int)) 0 else min v (n:Int))=(((if v < 0 then (v + (n:Int)).toNat else min v.toNat n):Nat):Int)
 by_cases hv:v < 0
 ·simp only [if_pos hv];omega
 ·simp only [if_neg hv];omega
theorem adjust_gen (lo hi:Option Int) (n:Nat):Builtin.Slice.sliceAdjust lo hi 1 (n:Int)=(((sIx n 0 lo:Nat):Int),((sIx n n hi:Nat):Int)):=by
 have h1:¬ ((1:Int) < 0):=by omega
 unfold Builtin.Slice.sliceAdjust
 simp only [h1,if_false]
 refine Prod.ext ?_ ?_
 ·cases lo with
  | none=>rfl
  | some v=>exact clip_eq v n 0
 ·cases hi with
  | none=>rfl
  | some v=>exact clip_eq v n n
theorem places_gen (i j:Nat):Builtin.Slice.slicePlaces (i:Int) (j:Int) 1=j - i:=by
 unfold Builtin.Slice.slicePlaces
 have h1:(1:Int) > 0:=by omega
 simp only [h1,if_true,Int.ediv_one]
 split <;> omega
theorem slicePart_ {v:Value} {o:Option Int} {Q:Option Int->Shared->Prop} (p:IsPart v o) (h:Q o s):wpAny (model prog w) A (Builtin.Slice.slicePartIndex v) Q E s:=by
 cases p with
 | none=>exact slicePart_none h
 | int i t=>exact slicePart_int h
theorem sliceApplied_gen {sl:Addr} {vl vu:Value} {lo hi:Option Int} {n:Nat} {Q:Int × Int × Nat->Shared->Prop} (hs:s.heap.IsSliceOf sl vl vu .none) (pl:IsPart vl lo) (pu:IsPart vu hi)
  (h:Q (((sIx n 0 lo:Nat):Int),1,sIx n n hi - sIx n 0 lo) s):wpAny (model prog w) A (Builtin.Slice.sliceApplied (.ref sl) (pure (n:Int))) Q E s:=by
 obtain ⟨os,hos,hcs,hds⟩:=id hs
 unfold Builtin.Slice.sliceApplied Builtin.Slice.sliceFields
 refine wpAny_bind (wpAny_bind (wpAny_field hos hds (x:=vl) rfl (wpAny_bind (wpAny_field hos hds (x:=vu) rfl (wpAny_bind (wpAny_field hos hds (x:=.none) rfl (wpAny_pure ?_)))))))
 refine wpAny_bind (slicePart_none ?_)
 show wpAny _ _ (if ((1:Int) == 0)=true then _ else _) _ _ s
 rw [if_neg (by decide)]
 refine wpAny_bind (slicePart_ pl (wpAny_bind (slicePart_ pu (wpAny_bind (wpAny_pure ?_)))))
 show wpAny _ _ (match Builtin.Slice.sliceAdjust lo hi 1 (n:Int) with | (lo,hi)=>pure (lo,(1:Int),Builtin.Slice.slicePlaces lo hi 1)) _ _ s
 rw [adjust_gen lo hi n]
 show wpAny _ _ (pure (((sIx n 0 lo:Nat):Int),(1:Int),Builtin.Slice.slicePlaces ((sIx n 0 lo:Nat):Int) ((sIx n n hi:Nat):Int) 1)) _ _ s
 rw [places_gen]
 exact wpAny_pure h
theorem pick_gen (xs:Array Value) (i k:Nat):((List.range k).filterMap fun (m:Nat)=>xs[((i:Int) + (m:Int) * 1).toNat]?).toArray=((xs.toList.drop i).take k).toArray:=by
 have e:(fun (m:Nat)=>xs[((i:Int) + (m:Int) * 1).toNat]?)=fun m=>xs[i + m]?:=by
  funext m
  have:((i:Int) + (m:Int) * 1).toNat=i + m:=by omega
  rw [this]
 rw [e]
 have:=pick_run xs i k
 rw [List.filterMap_map] at this
 have e2:((fun x=>xs[x]?) ∘ fun x=>i + x)=fun m=>xs[i + m]?:=rfl
 rw [e2] at this
 rw [this]
theorem getItem_tuple_cut {t sl:Addr} {items:Array Value} {vl vu:Value} {lo hi:Option Int} {Q:Value->Shared->Prop} (ht:IsTup s.heap t items) (hs:s.heap.IsSliceOf sl vl vu .none) (pl:IsPart vl lo) (pu:IsPart vu hi)
  (hw:¬ (sIx items.size 0 lo=0/\sIx items.size items.size hi=items.size))
  (h:Q (.ref s.heap.objs.size) { s with heap:=s.heap.push { cls:=.type "tuple",data:=.seq ((items.toList.drop (sIx items.size 0 lo)).take (sIx items.size items.size hi - sIx items.size 0 lo)).toArray } })
  (hsz:items.size<=sizeLine):wpAny (model prog w) A (getItem (.ref t) (.ref sl)) Q E s:=by
 have htake:sizeOk (.seq ((items.toList.drop (sIx items.size 0 lo)).take (sIx items.size items.size hi - sIx items.size 0 lo)).toArray):=by
  show ((items.toList.drop (sIx items.size 0 lo)).take (sIx items.size items.size hi - sIx items.size 0 lo)).toArray.size<=sizeLine
  rw [List.size_toArray,List.length_take,List.length_drop,Array.length_toList]
  omega
 have hj:sIx items.size items.size hi<=items.size:=sIx_le _ _ (Nat.le_refl _) hi
 obtain ⟨os,hos,hcs,hds⟩:=id hs
 have hTs:s.TypeIs (.ref sl) "slice" := ⟨os,hos,hcs⟩
 unfold getItem
 try with_reducible refine wpAny_holding ?_
 first | refine wpAny_bind (wpAny_pure ?_) | skip
 refine wpAny_bind (wpAny_sequenceKey ht.typeIs (by decide) ?_)
 refine wpAny_bind (wpAny_callSpecial?_slot (name:=Str.ofString "__getitem__") ht.typeIs PyProof.Rows.slot_tuple_getitem
  (wpAny_call_entry PyProof.Rows.slot_tuple_getitem ht.typeIs entry_tuple_getitem ?_ (args_tuple_getitem _ _)))
 show wpAny _ _ (Builtin.Tuple.tupleItemsOf (.ref t) >>= _) _ _ s
 refine wpAny_bind (tupleItemsOf_ ht ?_)
 refine wpAny_bind (wpAny_typeOf hTs ?_)
 rw [if_pos (by decide)]
 refine wpAny_bind (sliceApplied_gen hs pl pu ?_)
 have hno:¬ ((((sIx items.size 0 lo:Nat):Int) == 0 && (1:Int) == 1 && (sIx items.size items.size hi - sIx items.size 0 lo) == items.size)=true):=by
  intro q
  rw [Bool.and_eq_true,Bool.and_eq_true] at q
  have q1:((sIx items.size 0 lo:Nat):Int)=0:=eq_of_beq q.1.1
  have q2:sIx items.size items.size hi - sIx items.size 0 lo=items.size:=eq_of_beq q.2
  exact hw ⟨by omega,by omega⟩
 show wpAny _ _ (if (((sIx items.size 0 lo:Nat):Int) == 0 && (1:Int) == 1 && (sIx items.size items.size hi - sIx items.size 0 lo) == items.size)=true then _ else _) _ _ s
 rw [if_neg hno,pick_gen]
 first
  | exact wpAny_bind (m:=Builtin.Tuple.tupleExact _) (wpAny_newObj_type (wpAny_pure ⟨_,rfl,wpAny_pure h⟩) htake)
  | exact wpAny_bind (m:=Builtin.Tuple.tupleExact _) (wpAny_newObj_type (wpAny_bind (wpAny_pure (wpAny_pure ⟨_,rfl,wpAny_pure h⟩))) htake)
  | exact wpAny_bind (wpAny_bind (m:=Builtin.Tuple.tupleExact _) (wpAny_newObj_type (wpAny_pure (wpAny_pure ⟨_,rfl,wpAny_pure h⟩)) htake))
  | exact wpAny_bind (wpAny_bind (m:=Builtin.Tuple.tupleExact _) (wpAny_newObj_type (wpAny_pure ⟨_,rfl,wpAny_pure h⟩) htake))
end
end HT
namespace L2
open PySem PySem.Spec PyProof.Rows
abbrev TO:=St->Hp->(Option Int->Hp->Prop)->Prop
def PO (X:Cx) (e:Option Expr) (t:TO):Prop :=
 ∀ (pins:List (Addr × Obj)) (s:Shared) (σ:St) (H:Hp) (Q:Option Int->Hp->Prop),Inv X pins σ H s->t σ H Q ->
  wpAny (model X.prog X.w) X.A (evalPart e X.env) (fun u s'=>∃ o H',Inv X pins σ H' s'/\IsPart u o/\Q o H') X.xe s
def tNoPart:TO:=fun _ H Q=>Q none H
def tPart (t:TE):TO:=fun σ H Q=>t σ H fun x H1=>∃ i,x=.int i/\Q (some i) H1
section
variable {X:Cx} {e:Expr} {te:TE} {lo hi:Option Expr} {tl th:TO} {pos p2:Pos}
theorem po_none:PO X none tNoPart:=by
 intro pins s σ H Q I h
 rw [evalPart_none]
 exact wpAny_pure ⟨none,H,I,.none,h⟩
theorem po_some (h:PE X e te):PO X (some e) (tPart te):=by
 intro pins s σ H Q I hw
 rw [evalPart_some]
 refine thn (h pins s σ H _ I hw) fun u s1 ⟨x,H1,I1,r1,q1⟩=>?_
 obtain ⟨i,rfl,q⟩:=q1
 obtain ⟨t,rfl⟩:=r1
 exact ⟨some i,H1,I1,.int i t,q⟩
def SlR (X:Cx) (r:V->Option Int->Option Int->Hp->VK->Prop):Prop :=
 ∀ (pins:List (Addr × Obj)) (s:Shared) (σ:St) (H:Hp) (x:V) (v vl vu:Value) (lo hi:Option Int) (sl:Addr) (Q:VK),Inv X pins σ H s->RelV x v->s.heap.IsSliceOf sl vl vu .none->IsPart vl lo->IsPart vu hi->r x lo hi H Q ->
  ∃ T id,typeLookup (.type T) "__getitem__" = pure (some (.builtin id))/\s.TypeIs v T/\wpAny (model X.prog X.w) X.A (getItem v (.ref sl)) (EP X pins σ Q) X.xe s
def tSl (r:V->Option Int->Option Int->Hp->VK->Prop) (te:TE) (tl th:TO):TE:=fun σ H Q=>te σ H fun x H1=>tl σ H1 fun l H2=>th σ H2 fun u H3=>r x l u H3 Q
theorem pe_slice {r:V->Option Int->Option Int->Hp->VK->Prop} (hr:SlR X r) (he:PE X e te) (hl:PO X lo tl) (hu:PO X hi th):PE X (.Subscript e (.Slice lo hi none p2) pos) (tSl r te tl th):=by
 intro pins s σ H Q I h
 refine Subscript_ (thn (he pins s σ H _ I h) fun v s1 ⟨x,H1,I1,r1,q1⟩=>?_)
 refine wpAny_Slice (thn (hl pins s1 σ H1 _ I1 q1) fun vl s2 ⟨l,H2,I2,pl,q2⟩=>thn (hu pins s2 σ H2 _ I2 q2) fun vu s3 ⟨u,H3,I3,pu,q3⟩=>?_)
 rw [evalPart_none]
 refine wpAny_pure ?_
 have I4:Inv X pins σ H3 { s3 with heap:=s3.heap.push { cls:=.type "slice",data:=.fields #[vl,vu,.none] } }:=I3.kept (t':=s3.toks) fun b ob q=>Heap.get?_push_of_some _ q
 obtain ⟨T,id,hT,ht,hg⟩:=hr pins { s3 with heap:=s3.heap.push { cls:=.type "slice",data:=.fields #[vl,vu,.none] } } σ H3 x v vl vu l u s3.heap.objs.size Q I4 r1 (Heap.IsSliceOf.new ..) pl pu q3
 show wpAny (model X.prog X.w) X.A (subscriptTail e (.Slice lo hi none p2) v (.ref s3.heap.objs.size)) (EP X pins σ Q) X.xe { s3 with heap:=s3.heap.push { cls:=.type "slice",data:=.fields #[vl,vu,.none] } }
 exact tail_any (ops:=[.ref s3.heap.objs.size,v]) ht hT hg (by with_unfolding_all rfl)
def cutV (xs:List V) (lo hi:Option Int):List V:=(xs.drop (HT.sIx xs.length 0 lo)).take (HT.sIx xs.length xs.length hi - HT.sIx xs.length 0 lo)
theorem cutV_length (xs:List V) (lo hi:Option Int):(cutV xs lo hi).length<=xs.length:=by
 unfold cutV
 rw [List.length_take,List.length_drop]
 omega
def rSlT (K:PySem.W.Frag):V->Option Int->Option Int->Hp->VK->Prop:=fun x lo hi H Q=>∃ a xs,x=.ref a/\SqT K H a xs /\
 ¬ (HT.sIx xs.length 0 lo=0/\HT.sIx xs.length xs.length hi=xs.length)/\∀ p,H p=none->Q (.ref p) (upd H p (.tup (cutV xs lo hi)))
theorem sl_tup:SlR X (rSlT X.K):=by
 intro pins s σ H x v vl vu lo hi sl Q I rx hs pl pu h
 obtain ⟨a,xs,rfl,hx,hw,q⟩:=h
 cases rx
 obtain ⟨its,r,ht,hz⟩:=I.tuple hx
 have hlen:its.toArray.size=xs.length:=by rw [List.size_toArray];exact r.length.symm
 refine ⟨"tuple",_,PyProof.Rows.slot_tuple_getitem.lookup,ht.typeIs,?_⟩
 refine HT.getItem_tuple_cut ht hs pl pu (by rw [hlen];exact hw) ?_ (by rw [hlen];exact hz)
 rw [hlen]
 refine ⟨.ref s.heap.objs.size,_,I.laid (t':=s.toks) (o:=.tup (cutV xs lo hi)) (fun b ob q=>Heap.get?_push_of_some _ q) (Nat.le_refl _) ?_,rfl,q _ (I.hok.fresh (Nat.le_refl _))⟩
 exact ⟨Nat.le_trans (cutV_length xs lo hi) hz,_,(r.drop (HT.sIx xs.length 0 lo)).take (HT.sIx xs.length xs.length hi - HT.sIx xs.length 0 lo),IsTup.new _ _⟩
def rCatT (K:PySem.W.Frag):R2:=fun x y H Q=>∃ a b xs ys,x=.ref a/\y=.ref b/\SqT K H a xs/\SqT K H b ys/\xs ≠ []/\xs.length + ys.length<=sizeLine /\
 (ys=[]->Q (.ref a) H)/\(ys ≠ []->∀ p,H p=none->Q (.ref p) (upd H p (.tup (xs++ys))))
theorem Vals.nil_iff {xs:List V} {us:List Value} (r:Vals xs us):us=[] ↔ xs=[]:=by
 cases r with
 | nil=>simp
 | cons _ _=>simp
theorem op_catT:OpR X (binaryOp .Add) (rCatT X.K):=by
 intro pins s σ H x y v u Q I rx ry h
 obtain ⟨a,b,xs,ys,rfl,rfl,ha,hb,hx,hz,q1,q2⟩:=h
 cases rx
 cases ry
 obtain ⟨its,r1,p1,_⟩:=I.tuple ha
 obtain ⟨its2,r2,p2,_⟩:=I.tuple hb
 refine HT.cat_tup p1 p2 (fun z=>hx (r1.nil_iff.mp z)) (fun z=>⟨.ref a,H,I,rfl,q1 (r2.nil_iff.mp z)⟩) (fun z=>?_) (by rw [<- r1.length,<- r2.length];exact hz)
 refine ⟨.ref s.heap.objs.size,_,I.laid (t':=s.toks) (o:=.tup (xs++ys)) (fun b ob q=>Heap.get?_push_of_some _ q) (Nat.le_refl _) ?_,rfl,q2 (fun w=>z (r2.nil_iff.mpr w)) _ (I.hok.fresh (Nat.le_refl _))⟩
 exact ⟨by rw [List.length_append];exact hz,_,r1.append r2,IsTup.new _ _⟩
end
end L2
namespace L2
open PySem PySem.Spec PyProof.Rows
def ixN (n:Nat) (i:Int):Option Nat:=if 0<=i then (if i < n then some i.toNat else none) else if -(n:Int)<=i then some (i + n).toNat else none
def atI {α:Type} (xs:List α) (i:Int):Option α:=(ixN xs.length i).bind fun j=>xs[j]?
theorem ixN_seq {n:Nat} {i:Int} {j:Nat} (h:ixN n i=some j):seqIndex? i n=some j/\j < n/\-(n:Int)<=i/\i < n:=by
 unfold ixN at h
 by_cases h0:0<=i
 ·rw [if_pos h0] at h
  by_cases h1:i < n
  ·rw [if_pos h1] at h
   have e:i.toNat=j:=Option.some.inj h
   exact ⟨by rw [seqIndex_of h0 h1,e],by omega,by omega,h1⟩
  ·rw [if_neg h1] at h;cases h
 ·rw [if_neg h0] at h
  by_cases h1:-(n:Int)<=i
  ·rw [if_pos h1] at h
   have e:(i + n).toNat=j:=Option.some.inj h
   exact ⟨by rw [seqIndex_neg (by omega) h1,e],by omega,h1,by omega⟩
  ·rw [if_neg h1] at h;cases h
theorem atI_get {α:Type} {xs:List α} {i:Int} {v:α} (h:atI xs i=some v):∃ j,seqIndex? i xs.length=some j/\xs[j]?=some v/\j < xs.length/\-(xs.length:Int)<=i/\i < xs.length:=by
 unfold atI at h
 cases e:ixN xs.length i with
 | none=>rw [e] at h;cases h
 | some j =>
  rw [e] at h
  obtain ⟨h1,h2,h3,h4⟩:=ixN_seq e
  exact ⟨j,h1,h,h2,h3,h4⟩
def PlainIx (b:Expr):Prop:=∀ o i,subscripted b false o i=operate [o,i] (getItem o i)
def IxR (X:Cx) (r:R2):Prop :=
 ∀ (value slice:Expr) (pins:List (Addr × Obj)) (s:Shared) (σ:St) (H:Hp) (x y:V) (v u:Value) (Q:VK),Inv X pins σ H s->RelV x v->RelV y u->r x y H Q ->
  subscripted slice false v u=operate [v,u] (getItem v u)->wpAny (model X.prog X.w) X.A (subscriptTail value slice v u) (EP X pins σ Q) X.xe s
def MtR (X:Cx) (id:String) (r:V->List V->Hp->VK->Prop):Prop :=
 ∀ (pins:List (Addr × Obj)) (s:Shared) (σ:St) (H:Hp) (x:V) (xs:List V) (v:Value) (us:List Value) (Q:VK),Inv X pins σ H s->RelV x v->Vals xs us->r x xs H Q ->
  wpAny (model X.prog X.w) X.A (call (.builtin id) (v :: us)) (EP X pins σ Q) X.xe s
section
variable {X:Cx} {a b:Expr} {ta tb:TE} {pos:Pos}
theorem IxR.or {r r':R2} (h:IxR X r) (h':IxR X r'):IxR X (fun x y H Q=>r x y H Q\/r' x y H Q):=by
 intro value slice pins s σ H x y v u Q I rx ry q hs
 rcases q with q | q
 ·exact h value slice pins s σ H x y v u Q I rx ry q hs
 ·exact h' value slice pins s σ H x y v u Q I rx ry q hs
theorem pe_ix {r:R2} (hr:IxR X r) (ha:PE X a ta) (hb:PE X b tb) (hs:PlainIx b):PE X (.Subscript a b pos) (tOp r ta tb):=by
 intro pins s σ H Q I h
 exact Subscript_ (binT ha hb I h fun v u s2 x y H2 I2 rx ry q=>hr a b pins s2 σ H2 x y v u Q I2 rx ry q (hs _ _))
def rIxL (K:PySem.W.Frag):R2:=fun x y H Q=>∃ p xs i v,x=.ref p/\y=.int i/\SqL K H p xs/\atI xs i=some v/\Q v H
def rIxT (K:PySem.W.Frag):R2:=fun x y H Q=>∃ p xs i v,x=.ref p/\y=.int i/\SqT K H p xs/\atI xs i=some v/\Q v H
def rIxS:R2:=fun x y H Q=>∃ z i c,x=.str z/\y=.int i/\z.length<=sizeLine/\atI z.cps.toList i=some c/\Q (.str ⟨#[c]⟩) H
theorem ix_list:IxR X (rIxL X.K):=by
 intro value slice pins s σ H x y v u Q I rx ry h hs
 obtain ⟨p,xs,i,z,rfl,rfl,hq,he,q⟩:=h
 cases rx
 obtain ⟨t,rfl⟩:=ry
 obtain ⟨its,r,pl,hz⟩:=I.list hq
 obtain ⟨j,h1,h2,h3,h4,h5⟩:=atI_get he
 obtain ⟨w,ew,rw'⟩:=r.get h2
 have hl:=r.length
 have hn:=line63
 have fin:EP X pins σ Q w s:=⟨z,H,I,rw',q⟩
 by_cases h0:0<=i
 ·have hj:i.toNat=j:=by
   rw [seqIndex_of h0 h5] at h1
   exact Option.some.inj h1
  exact item_listR pl.isList h0 (by omega) (by rw [hj];simpa using ew) fin hs
 ·have hj:(i + (its.toArray.size:Int)).toNat=j:=by
   rw [seqIndex_neg (by omega) h4] at h1
   rw [List.size_toArray,<- hl]
   exact Option.some.inj h1
  exact subscriptTail_builtinR (x:=w) pl.isList.typeIs slot_list_getitem.lookup
   (wpAny_getItem_list_neg (Q:=fun r s'=>r=w/\EP X pins σ Q r s') pl.isList (by omega) (by rw [List.size_toArray] <;> omega) (by omega) (by rw [hj];simpa using ew) ⟨rfl,fin⟩) hs
theorem ix_tup:IxR X (rIxT X.K):=by
 intro value slice pins s σ H x y v u Q I rx ry h hs
 obtain ⟨p,xs,i,z,rfl,rfl,hq,he,q⟩:=h
 cases rx
 obtain ⟨t,rfl⟩:=ry
 obtain ⟨its,r,pl,hz⟩:=I.tuple hq
 obtain ⟨j,h1,h2,h3,h4,h5⟩:=atI_get he
 obtain ⟨w,ew,rw'⟩:=r.get h2
 have hl:=r.length
 have hn:=line63
 have fin:EP X pins σ Q w s:=⟨z,H,I,rw',q⟩
 exact subscriptTail_builtinR (x:=w) pl.typeIs slot_tuple_getitem.lookup
  (getItem_tuple (j:=j) (Q:=fun r s'=>r=w/\EP X pins σ Q r s') pl (by omega) (by omega) (by rw [List.size_toArray,<- hl];exact h1) (by simpa using ew) ⟨rfl,fin⟩) hs
theorem ix_str:IxR X rIxS:=by
 intro value slice pins s σ H x y v u Q I rx ry h hs
 obtain ⟨z,i,c,rfl,rfl,hz,he,q⟩:=h
 obtain ⟨t,rfl⟩:=rx
 obtain ⟨t',rfl⟩:=ry
 obtain ⟨j,h1,h2,h3,h4,h5⟩:=atI_get he
 have hl:z.cps.toList.length=z.length:=by simp [Str.length]
 rw [hl] at h1 h4 h5
 have hn:=line63
 exact tail_any (typeIs_str s z t) slot_str_getitem.lookup (getItem_str (c:=c) (by
  have e1:decide (i < -(2 ^ 63:Int))=false:=decide_eq_false (by omega)
  have e2:decide (i ≥ 2 ^ 63)=false:=decide_eq_false (by omega)
  rw [e1,e2,Bool.or_false]) (by rw [h1];simpa using h2) ⟨.str ⟨#[c]⟩,H,I.tok _,⟨_,rfl⟩,q⟩) hs
def rIx (K:PySem.W.Frag):R2:=fun x y H Q=>rIxL K x y H Q\/rIxT K x y H Q\/rIxS x y H Q
theorem ix_seq:IxR X (rIx X.K):=ix_list.or (ix_tup.or ix_str)
theorem mapSeq_set (its:List Value) (n j:Nat) (u:Value):Obj.mapSeq (·.setIfInBounds j u) { cls:=.type "list",data:=.seq its.toArray n }={ cls:=.type "list",data:=.seq (its.set j u).toArray n }:=by
 simp [Obj.mapSeq]
theorem Inv.lst {pins:List (Addr × Obj)} {σ:St} {H:Hp} {s:Shared} {p:Addr} {xs:List V} (I:Inv X pins σ H s) (h:H p=some (.lst xs)) :
  ∃ (its:List Value) (n:Nat),Vals xs its/\s.heap.get? p=some { cls:=.type "list",data:=.seq its.toArray n }/\xs.length<=sizeLine:=by
 obtain ⟨z,its,n,r,e⟩:=I.hok p _ h
 exact ⟨its,n,r,e,z⟩
theorem Inv.lstUpd {pins:List (Addr × Obj)} {σ:St} {H:Hp} {s:Shared} {p:Addr} {xs ys:List V} {its its':List Value} {n n':Nat} {f:Obj->Obj} (I:Inv X pins σ H s) (h:H p=some (.lst xs))
  (ho:s.heap.get? p=some { cls:=.type "list",data:=.seq its.toArray n }) (hf:f { cls:=.type "list",data:=.seq its.toArray n }={ cls:=.type "list",data:=.seq its'.toArray n' }) (r:Vals ys its') (hz:ys.length<=sizeLine) (t:Nat) :
  Inv X pins σ (upd H p (.lst ys)) { s with heap:=s.heap.update p f,toks:=t }:=by
 have e:(s.heap.update p f).get? p=some { cls:=.type "list",data:=.seq its'.toArray n' }:=by
  rw [Heap.get?_update_self f ho (by rw [hf] <;> rfl),hf]
 refine I.write (x:=p) (e:=p) (by rw [h];trivial) (.inl rfl) (fun b u hb q=>(Heap.get?_update_other _ _ (Ne.symm hb)).trans q) ⟨_,e⟩ ?_
 exact ⟨hz,its',n',r,e⟩
def rSetL:V->V->V->Hp->(Hp->Prop)->Prop:=fun o i v H Q=>∃ p xs k j,o=.ref p/\i=.int k/\H p=some (.lst xs)/\ixN xs.length k=some j/\Q (upd H p (.lst (xs.set j v)))
theorem set_list:PSet X rSetL:=by
 intro pins s σ H o i v ov iv u Q I ro ri rv h
 obtain ⟨p,xs,k,j,rfl,rfl,hp,hj,q⟩:=h
 cases ro
 obtain ⟨t,rfl⟩:=ri
 obtain ⟨its,n,r,ho,hz⟩:=I.lst hp
 obtain ⟨h1,h2,h3,h4⟩:=ixN_seq hj
 have hl:=r.length
 have hn:=line63
 have I':Inv X pins σ (upd H p (.lst (xs.set j v))) { s with heap:=s.heap.update p (Obj.mapSeq (·.setIfInBounds j u)) } :=
  I.lstUpd hp ho (mapSeq_set its n j u) (r.set rv j) (by rw [List.length_set];exact hz) s.toks
 by_cases h0:0<=k
 ·have hk:k.toNat=j:=by
   rw [seqIndex_of h0 h4] at h1
   exact Option.some.inj h1
  exact PySem.W.ki_setAt ho h0 (by omega) (by rw [List.size_toArray,<- hl];exact h4) (by rw [hk];exact ⟨_,I',q⟩)
 ·have hk:(k + (its.toArray.size:Int)).toNat=j:=by
   rw [seqIndex_neg (by omega) h3] at h1
   rw [List.size_toArray,<- hl]
   exact Option.some.inj h1
  exact PySem.W.ki_setBack ho (by omega) (by rw [List.size_toArray,<- hl];exact h3) (by omega) (by rw [hk];exact ⟨_,I',q⟩)
theorem slice_bounds (lo hi:Option Int) (n:Nat):(sliceBounds lo hi none n).1=((HT.sIx n 0 lo:Nat):Int)/\(sliceBounds lo hi none n).2.1=((HT.sIx n n hi:Nat):Int)/\(sliceBounds lo hi none n).2.2=1:=by
 refine ⟨?_,?_,rfl⟩
 ·cases lo with
  | none=>simp [sliceBounds,HT.sIx]
  | some i =>
   simp only [sliceBounds,HT.sIx,Option.getD_none,show (1:Int) > 0 by decide,if_true]
   by_cases h:i < 0
   ·simp only [h,if_true] <;> omega
   ·simp only [h,if_false] <;> omega
 ·cases hi with
  | none=>simp [sliceBounds,HT.sIx]
  | some i =>
   simp only [sliceBounds,HT.sIx,Option.getD_none,show (1:Int) > 0 by decide,if_true]
   by_cases h:i < 0
   ·simp only [h,if_true] <;> omega
   ·simp only [h,if_false] <;> omega
theorem slicePick_cut (its:List Value) (lo hi:Option Int):slicePick its.toArray lo hi none=((its.drop (HT.sIx its.length 0 lo)).take (HT.sIx its.length its.length hi - HT.sIx its.length 0 lo)).toArray:=by
 obtain ⟨h1,h2,h3⟩:=slice_bounds lo hi its.toArray.size
 unfold slicePick
 rw [h1,h2,h3]
 simp only [sliceRange_one,pick_run,List.size_toArray] <;> rfl
def rSlL (K:PySem.W.Frag):V->Option Int->Option Int->Hp->VK->Prop:=fun x lo hi H Q=>∃ a xs,x=.ref a/\SqL K H a xs/\∀ p,H p=none->Q (.ref p) (upd H p (.lst (cutV xs lo hi)))
theorem sl_list:SlR X (rSlL X.K):=by
 intro pins s σ H x v vl vu lo hi sl Q I rx hs pl pu h
 obtain ⟨a,xs,rfl,hx,q⟩:=h
 cases rx
 obtain ⟨its,r,ht,hz⟩:=I.list hx
 have hlen:=r.length
 refine ⟨"list",_,slot_list_getitem.lookup,ht.isList.typeIs,?_⟩
 refine wpAny_getItem_list_slice ht.isList hs pl pu .none (by simp) ?_ (by rw [List.size_toArray] <;> omega)
 rw [slicePick_cut,<- hlen]
 refine ⟨.ref s.heap.objs.size,_,I.laid (t':=s.toks) (o:=.lst (cutV xs lo hi)) (fun b ob q=>Heap.get?_push_of_some _ q) (Nat.le_refl _) ?_,rfl,q _ (I.hok.fresh (Nat.le_refl _))⟩
 exact ⟨Nat.le_trans (cutV_length xs lo hi) hz,_,0,(r.drop (HT.sIx xs.length 0 lo)).take (HT.sIx xs.length xs.length hi - HT.sIx xs.length 0 lo),Heap.get?_push_size _ rfl⟩
def flatV:V->Bool
 | .non=>true
 | .bl _=>true
 | .int _=>true
 | .str _=>true
 | _=>false
def eqV:V->V->Bool
 | .non,.non=>true
 | .bl a,.bl b=>a == b
 | .bl a,.int b=>(if a then 1 else 0) == b
 | .int a,.bl b=>a == (if b then 1 else 0)
 | .int a,.int b=>a == b
 | .str a,.str b=>a == b
 | _,_=>false
theorem eqAt_V {A:Around} {s:Shared} {y x:V} {u v:Value} (ry:RelV y u) (rx:RelV x v) (fy:flatV y=true) (fx:flatV x=true):SeqAt.EqAt A s u v (eqV y x):=by
 cases y with
 | non =>
  cases ry
  cases x with
  | non=>cases rx;exact SeqAt.EqAt.same _
  | bl b=>cases rx;exact SeqAt.EqAt.none_bool b
  | int b=>obtain ⟨t,rfl⟩:=rx;exact SeqAt.EqAt.none_int b t
  | str b=>obtain ⟨t,rfl⟩:=rx;exact SeqAt.EqAt.none_str b t
  | _=>exact absurd (show false=true from fx) Bool.false_ne_true
 | bl a =>
  cases ry
  cases x with
  | non=>cases rx;exact SeqAt.EqAt.bool_none a
  | bl b=>cases rx;exact SeqAt.EqAt.bool_bool a b
  | int b=>obtain ⟨t,rfl⟩:=rx;exact SeqAt.EqAt.bool_int a b t
  | str b=>obtain ⟨t,rfl⟩:=rx;exact SeqAt.EqAt.bool_str a b t
  | _=>exact absurd (show false=true from fx) Bool.false_ne_true
 | int a =>
  obtain ⟨t',rfl⟩:=ry
  cases x with
  | non=>cases rx;exact SeqAt.EqAt.int_none a t'
  | bl b=>cases rx;exact SeqAt.EqAt.int_bool a t' b
  | int b=>obtain ⟨t,rfl⟩:=rx;exact SeqAt.EqAt.int_int a t' b t
  | str b=>obtain ⟨t,rfl⟩:=rx;exact SeqAt.EqAt.int_str a t' b t
  | _=>exact absurd (show false=true from fx) Bool.false_ne_true
 | str a =>
  obtain ⟨t',rfl⟩:=ry
  cases x with
  | non=>cases rx;exact SeqAt.EqAt.str_none a t'
  | bl b=>cases rx;exact SeqAt.EqAt.str_bool a t' b
  | int b=>obtain ⟨t,rfl⟩:=rx;exact SeqAt.EqAt.str_int a t' b t
  | str b=>obtain ⟨t,rfl⟩:=rx;exact SeqAt.EqAt.str_str a t' b t
  | _=>exact absurd (show false=true from fx) Bool.false_ne_true
 | _=>exact absurd (show false=true from fy) Bool.false_ne_true
def eqU (x:V) (u:Value):Bool:=match u with
 | .none=>eqV .non x
 | .bool b=>eqV (.bl b) x
 | .int i _=>eqV (.int i) x
 | .str z _=>eqV (.str z) x
 | _=>false
theorem eqU_of {x y:V} {u:Value} (r:RelV y u) (f:flatV y=true):eqU x u=eqV y x:=by
 cases y with
 | non=>cases r;rfl
 | bl b=>cases r;rfl
 | int i=>obtain ⟨t,rfl⟩:=r;rfl
 | str z=>obtain ⟨t,rfl⟩:=r;rfl
 | _=>exact absurd (show false=true from f) Bool.false_ne_true
theorem any_eqU {x:V}:∀ {xs:List V} {us:List Value},Vals xs us->xs.all flatV=true->us.any (eqU x)=xs.any fun y=>eqV y x
 | _,_,.nil,_=>rfl
 | y :: xs,u :: us,.cons r t,f=>by
  rw [List.all_cons,Bool.and_eq_true] at f
  rw [List.any_cons,List.any_cons,eqU_of r f.1,any_eqU t f.2]
theorem mem_eqAt {A:Around} {s:Shared} {x:V} {v:Value} (rx:RelV x v) (fx:flatV x=true):∀ {xs:List V} {us:List Value},Vals xs us->xs.all flatV=true->∀ u ∈ us,SeqAt.EqAt A s u v (eqU x u)
 | _,_,.nil,_=>fun u hu=>by cases hu
 | y :: xs,u :: us,.cons r t,f=>fun u' hu=>by
  rw [List.all_cons,Bool.and_eq_true] at f
  rcases List.mem_cons.mp hu with rfl | hu
  ·rw [eqU_of r f.1];exact eqAt_V r rx f.1 fx
  ·exact mem_eqAt rx fx t f.2 u' hu
def inV (x:V) (xs:List V):Bool:=xs.any fun y=>eqV y x
def rIn (K:PySem.W.Frag) (neg:Bool):R2:=fun x y H Q=>∃ p xs,y=.ref p/\(SqL K H p xs\/SqT K H p xs)/\flatV x=true/\xs.all flatV=true/\Q (.bl (if neg then !inV x xs else inV x xs)) H
theorem op_in_seq:OpR X (compareOp .In) (rIn X.K false):=by
 intro pins s σ H x y v u Q I rx ry h
 obtain ⟨p,xs,rfl,hq,fx,fs,q⟩:=h
 cases ry
 rcases hq with hq | hq
 ·obtain ⟨its,r,pl,hz⟩:=I.list hq
  refine SeqAt.in_listAt (eqU x) pl.isList (fun w hw=>mem_eqAt rx fx r fs w (by simpa using hw)) ⟨.bl _,H,I,rfl,?_⟩
  rw [show its.toArray.any (eqU x)=its.any (eqU x) by simp,any_eqU r fs]
  exact q
 ·obtain ⟨its,r,pl,hz⟩:=I.tuple hq
  refine SeqAt.in_tupleAt (eqU x) pl (fun w hw=>mem_eqAt rx fx r fs w (by simpa using hw)) ⟨.bl _,H,I,rfl,?_⟩
  rw [show its.toArray.any (eqU x)=its.any (eqU x) by simp,any_eqU r fs]
  exact q
theorem op_notIn_seq:OpR X (compareOp .NotIn) (rIn X.K true):=by
 intro pins s σ H x y v u Q I rx ry h
 obtain ⟨p,xs,rfl,hq,fx,fs,q⟩:=h
 cases ry
 rcases hq with hq | hq
 ·obtain ⟨its,r,pl,hz⟩:=I.list hq
  refine SeqAt.notIn_listAt (eqU x) pl.isList (fun w hw=>mem_eqAt rx fx r fs w (by simpa using hw)) ⟨.bl _,H,I,rfl,?_⟩
  rw [show its.toArray.any (eqU x)=its.any (eqU x) by simp,any_eqU r fs]
  exact q
 ·obtain ⟨its,r,pl,hz⟩:=I.tuple hq
  refine SeqAt.notIn_tupleAt (eqU x) pl (fun w hw=>mem_eqAt rx fx r fs w (by simpa using hw)) ⟨.bl _,H,I,rfl,?_⟩
  rw [show its.toArray.any (eqU x)=its.any (eqU x) by simp,any_eqU r fs]
  exact q
theorem op_notIn_str:OpR X (compareOp .NotIn) (fun x y H Q=>∃ i j,x=.str i/\y=.str j/\Q (.bl (!(!(Builtin.Str.occurrences j i 0 j.length 1).isEmpty))) H):=by
 intro pins s σ H x y v u Q I rx ry h
 obtain ⟨i,j,rfl,rfl,q⟩:=h
 obtain ⟨t,rfl⟩:=rx
 obtain ⟨t',rfl⟩:=ry
 exact notIn_str ⟨.bl _,H,I,rfl,q⟩
theorem call_len_seq:CallR X (.builtin "len") (fun xs H Q=>∃ p ys,xs=[.ref p]/\(SqL X.K H p ys\/SqT X.K H p ys)/\Q (.int ys.length) H):=by
 intro pins s σ H xs us Q I r h
 obtain ⟨p,ys,rfl,hq,q⟩:=h
 obtain ⟨u,rfl,rx⟩:=vals1 r
 cases rx
 have hn:=line63
 rcases hq with hq | hq
 ·obtain ⟨its,r',pl,hz⟩:=I.list hq
  have hlen:=r'.length
  exact Calls.call_len_list pl.isList (by simp only [List.size_toArray] <;> omega) ⟨.int ys.length,H,I.tok _,⟨s.toks + 1,by rw [List.size_toArray,hlen]⟩,q⟩
 ·obtain ⟨its,r',pl,hz⟩:=I.tuple hq
  have hlen:=r'.length
  exact len_tuple pl (by simp only [List.size_toArray] <;> omega) ⟨.int ys.length,H,I.tok _,⟨s.toks + 1,by rw [List.size_toArray,hlen]⟩,q⟩
theorem call_len_str:CallR X (.builtin "len") (fun xs H Q=>∃ z,xs=[.str z]/\z.length<=sizeLine/\Q (.int z.length) H):=by
 intro pins s σ H xs us Q I r h
 obtain ⟨z,rfl,hz,q⟩:=h
 obtain ⟨u,rfl,t,rfl⟩:=vals1 r
 have hn:=line63
 exact len_str (by omega) ⟨.int z.length,H,I.tok _,⟨_,rfl⟩,q⟩
theorem call_tuple_of:CallR X (.type "tuple") (fun xs H Q=>∃ p ys,xs=[.ref p]/\((SqL X.K H p ys/\∀ l,H l=none->Q (.ref l) (upd H l (.tup ys)))\/(SqT X.K H p ys/\Q (.ref p) H))):=by
 intro pins s σ H xs us Q I r h
 obtain ⟨p,ys,rfl,h⟩:=h
 obtain ⟨u,rfl,rx⟩:=vals1 r
 cases rx
 rcases h with ⟨hq,q⟩ | ⟨hq,q⟩
 ·obtain ⟨its,r',pl,hz⟩:=I.list hq
  have hlen:=r'.length
  refine call_tuple_list pl.isList (fun h' kp=>?_) (by simp only [List.size_toArray] <;> omega)
  have I1:Inv X pins σ H { s with heap:=h' }:=I.kept (t':=s.toks) kp
  have I2:Inv X pins σ (upd H h'.objs.size (.tup ys)) { s with heap:=h'.push { cls:=.type "tuple",data:=.seq its.toArray } } :=
   I1.laid (t':=s.toks) (fun b o e=>Heap.get?_push_of_some _ e) (Nat.le_refl _) (show ObjOk X.prog X.w _ _ _ (.tup ys) from ⟨hz,its,r',IsTup.new _ _⟩)
  exact ⟨.ref h'.objs.size,_,I2,rfl,q _ (I1.hok.fresh (Nat.le_refl _))⟩
 ·obtain ⟨its,r',pl,hz⟩:=I.tuple hq
  exact call_tuple_same pl ⟨.ref p,H,I,rfl,q⟩
def tyV (K:PySem.W.Frag) (T:String) (x:V) (H:Hp):Prop:=match x with
 | .str _=>T="str"
 | .int _=>T="int"
 | .ref p=>(T="list"/\∃ xs,SqL K H p xs)\/(T="tuple"/\∃ o,K.lookup p=some o/\o.cls=.type "tuple"/\o.dict=none) \/
   (T="dict"/\((∃ kvs,H p=some (.dK kvs))\/∃ kvs,H p=some (.dT kvs)))\/(T="set"/\∃ S n,H p=some (.set S n))
 | _=>False
theorem tyV_is {pins:List (Addr × Obj)} {σ:St} {H:Hp} {s:Shared} {T:String} {x:V} {v:Value} (I:Inv X pins σ H s) (r:RelV x v) (ty:tyV X.K T x H) :
  s.TypeIs v T/\∀ a,v=.ref a->∃ ob,s.heap.get? a=some ob/\ob.dict=none:=by
 cases x with
 | str z =>
  obtain ⟨t,rfl⟩:=r
  cases (show T="str" from ty)
  exact ⟨typeIs_str s z t,fun _ e=>nomatch e⟩
 | int i =>
  obtain ⟨t,rfl⟩:=r
  cases (show T="int" from ty)
  exact ⟨typeIs_int s i t,fun _ e=>nomatch e⟩
 | ref p =>
  cases r
  rcases ty with ⟨rfl,xs,hq⟩ | ⟨rfl,o,hk,hc,hd⟩ | ⟨rfl,hk⟩ | ⟨rfl,S,n,hk⟩
  ·obtain ⟨its,_,pl,_⟩:=I.list hq
   refine ⟨pl.isList.typeIs,fun a e=>?_⟩
   cases e
   obtain ⟨o,n,e,c,hd,_⟩:=pl
   exact ⟨o,e,hd⟩
  ·refine ⟨⟨o,I.kIn p o hk,hc⟩,fun a e=>?_⟩
   cases e
   exact ⟨o,I.kIn _ o hk,hd⟩
  ·have z:∃ o,s.heap.get? p=some o/\o.ExactDict:=by
    rcases hk with ⟨kvs,hk⟩ | ⟨kvs,hk⟩
    ·obtain ⟨_,_,_,_,o,_,_,e,ex,_⟩:=I.hok p _ hk
     exact ⟨o,e,ex⟩
    ·obtain ⟨_,_,_,_,o,_,_,e,ex,_⟩:=I.hok p _ hk
     exact ⟨o,e,ex⟩
   obtain ⟨o,e,ex⟩:=z
   refine ⟨⟨o,e,ex.1⟩,fun a e2=>?_⟩
   cases e2
   exact ⟨o,e,ex.2.1⟩
  ·obtain ⟨o,_,_,_,e,ex,_⟩:=I.hok p _ hk
   refine ⟨⟨o,e,ex.1⟩,fun a e2=>?_⟩
   cases e2
   exact ⟨o,e,ex.2.1⟩
 | _=>exact False.elim ty
def tBM (K:PySem.W.Frag) (T:String) (r:V->List V->Hp->VK->Prop) (to:TE) (t:TA):TE:=fun σ H Q=>to σ H fun x H1=>tyV K T x H1/\t σ H1 fun xs H2=>r x xs H2 Q
variable {o e:Expr} {es:List Expr} {to:TE} {t:TA} {name:Str} {apos cpos:Pos} {T id:String} {r:V->List V->Hp->VK->Prop}
theorem pe_bm (pa:PlainAttrs T) (slot:Slot T name id) (hty:typeOf (.builtin id)=pure (.type "method_descriptor")) (hm:MtR X id r) (ho:PE X o to) (ha:PA X (e :: es) t)
  (hbase:attributeBase o name X.env (eval o X.env)=eval o X.env:=by rfl)
  (hfew:((backTo cpos (starEach (e :: es) X.env)).all (fun x=>!x.1) && (backToKw cpos (keywordEach [] X.env)).all (fun x=>x.1.isSome)
   && decide ((e :: es).length + ([]:List Keyword).length + (if ([]:List Keyword).isEmpty then 0 else 1) < 30))=true:=by rfl)
  (hline:(apos.endLine == cpos.line)=true:=by rfl) (hs:starEach (e :: es) X.env=(false,eval e X.env) :: starEach es X.env:=by rfl) (hplain:(backTo cpos (starEach es X.env)).any (·.1)=false:=by rfl) :
  PE X (.Call (.Attribute o name apos) (e :: es) [] cpos) (tBM X.K T r to t):=by
 intro pins s σ H Q I h
 refine wpAny_Call_method_late hbase hfew hline rfl (thn (ho pins s σ H _ I h) fun v s1 ⟨x,H1,I1,r1,ty,q1⟩=>?_)
 obtain ⟨h1,h2⟩:=tyV_is I1 r1 ty
 refine ⟨T,id,pa,slot,hty,h1,h2,?_⟩
 have hA:=ha cpos pins s1 σ H1 _ I1 q1
 rw [hs] at hA ⊢
 refine Calls.callWith_builtin (by show (false || (backTo cpos (starEach es X.env)).any (·.1))=false;rw [hplain] <;> rfl) (Calls.evalArgs_plain ?_)
 exact thn hA fun us s2 ⟨vs,H2,I2,r2,q2⟩=>hm pins s2 σ H2 x vs v us Q I2 r1 r2 q2
end
end L2
namespace L2
open PySem PySem.Spec PyProof.Rows
def MtM (X:Cx) (id:String) (r:V->List V->Hp->VK->Prop):Prop :=
 ∀ (pins:List (Addr × Obj)) (s:Shared) (σ:St) (H:Hp) (x:V) (xs:List V) (v:Value) (us:List Value) (Q:VK),Inv X pins σ H s->RelV x v->Vals xs us->r x xs H Q ->
  wpAny (model X.prog X.w) X.A (call (.builtin id) (v :: us)) (EP X pins σ Q) X.xe s
theorem Vals.one:∀ {x:V} {us:List Value},Vals [x] us->∃ u,us=[u]/\RelV x u
 | _,_,.cons r .nil=>⟨_,rfl,r⟩
theorem Vals.two:∀ {x y:V} {us:List Value},Vals [x,y] us->∃ u v,us=[u,v]/\RelV x u/\RelV y v
 | _,_,_,.cons r (.cons q .nil)=>⟨_,_,rfl,r,q⟩
theorem Vals.zero:∀ {us:List Value},Vals [] us->us=[]
 | _,.nil=>rfl
theorem Vals.rep {xs:List V} {us:List Value} (h:Vals xs us):∀ k:Nat,Vals (List.replicate k xs).flatten (List.replicate k us).flatten
 | 0=>.nil
 | k + 1=>by
  rw [List.replicate_succ,List.replicate_succ,List.flatten_cons,List.flatten_cons]
  exact Vals.append h (Vals.rep h k)
theorem foldl_rep (its:List Value):∀ (k:Nat) (acc:List Value),
  List.foldl (fun x1 x2=>x1++x2) acc.toArray (List.replicate k its.toArray)=(acc++(List.replicate k its).flatten).toArray
 | 0,acc=>by simp
 | k + 1,acc=>by
  have e:acc.toArray++its.toArray=(acc++its).toArray:=by simp
  have e2:(acc++its)++(List.replicate k its).flatten=acc++(List.replicate (k + 1) its).flatten:=by
   rw [List.replicate_succ,List.flatten_cons,List.append_assoc]
  rw [<- e2,<- foldl_rep its k (acc++its),<- e,List.replicate_succ,List.foldl_cons]
section
variable {X:Cx} {pins:List (Addr × Obj)} {σ:St} {H:Hp} {s:Shared} {l b:Addr} {xs ys zs:List V}
theorem Inv.lset {its its':List Value} {n:Nat} {f:Array Value->Array Value} {t':Nat} (I:Inv X pins σ H s) (hH:H l=some (.lst xs))
  (e:s.heap.get? l=some { cls:=.type "list",data:=.seq its.toArray n }) (hf:f its.toArray=its'.toArray) (hv:Vals ys its') (hz:ys.length<=sizeLine) :
  Inv X pins σ (upd H l (.lst ys)) { s with heap:=s.heap.update l (Obj.mapSeq f),toks:=t' }:=by
 have q:=PySem.IsL.update e f
 rw [hf] at q
 refine I.write (x:=l) (e:=l) (by rw [hH];exact trivial) (.inl rfl) (fun b' u hb hu=>(Heap.get?_update_other s.heap (Obj.mapSeq f) (Ne.symm hb)).trans hu) ⟨_,q⟩ ?_
 exact ⟨hz,its',_,hv,q⟩
theorem Inv.lnew {its:List Value} {t':Nat} (I:Inv X pins σ H s) (hv:Vals ys its) (hz:ys.length<=sizeLine) :
  Inv X pins σ (upd H s.heap.objs.size (.lst ys)) { s with heap:=s.heap.push { cls:=.type "list",data:=.seq its.toArray },toks:=t' } :=
 I.laid (fun _ _ q=>Heap.get?_push_of_some _ q) (Nat.le_refl _) ⟨hz,its,0,hv,Heap.get?_push_size _ rfl⟩
theorem Inv.fresh (I:Inv X pins σ H s):H s.heap.objs.size=none:=I.hok.fresh (Nat.le_refl _)
theorem Inv.lstM (I:Inv X pins σ H s) (hH:H l=some (.lst xs)):xs.length<=sizeLine/\∃ (its:List Value) (n:Nat),Vals xs its/\xs.length=its.length/\s.heap.get? l=some { cls:=.type "list",data:=.seq its.toArray n }:=by
 obtain ⟨z,its,n,r,e⟩:=I.hok l _ hH
 exact ⟨z,its,n,r,r.length,e⟩
theorem notLongL {n:Nat} (h:n<=sizeLine):Builtin.List.listTooLong n=false:=by
 unfold Builtin.List.listTooLong
 exact decide_eq_false (by omega)
end
section
variable {X:Cx}
def rAppend:V->List V->Hp->VK->Prop:=fun x vs H Q=>∃ l xs y,x=.ref l/\vs=[y]/\H l=some (.lst xs)/\xs.length < sizeLine/\Q .non (upd H l (.lst (xs++[y])))
theorem mt_append:MtM X "list.append" rAppend:=by
 intro pins s σ H x vs v us Q I rx rv h
 obtain ⟨l,xs,y,rfl,rfl,hH,hz,q⟩:=h
 cases rx
 obtain ⟨u,rfl,ru⟩:=rv.one
 obtain ⟨z,its,n,r,hl,e⟩:=I.lstM hH
 refine call_meets F.slot_list_append ⟨_,e,rfl⟩ F.entry_list_append (F.args_list_append_2 _ _) (PySem.list_append l its.toArray n u (by rw [List.size_toArray];omega)) ⟨e,?_⟩
 refine ⟨.non,_,I.lset (its':=its++[u]) hH e (by simp) (r.append (.cons ru .nil)) ?_,rfl,q⟩
 rw [List.length_append,List.length_singleton]
 omega
def rCat:R2:=fun x y H Q=>∃ l b xs zs,x=.ref l/\y=.ref b/\H l=some (.lst xs)/\H b=some (.lst zs)/\xs.length + zs.length<=sizeLine/\∀ p,H p=none->Q (.ref p) (upd H p (.lst (xs++zs)))
theorem op_cat:OpR X (binaryOp .Add) rCat:=by
 intro pins s σ H x y v u Q I rx ry h
 obtain ⟨l,b,xs,zs,rfl,rfl,hH,hB,hz,q⟩:=h
 cases rx
 cases ry
 obtain ⟨z,its,n,r,hl,e⟩:=I.lstM hH
 obtain ⟨z2,its2,n2,r2,hl2,e2⟩:=I.lstM hB
 refine PySem.P.add_list e e2 ?_ (by rw [List.size_toArray,List.size_toArray];omega)
 have ea:its.toArray++its2.toArray=(its++its2).toArray:=by simp
 rw [ea]
 exact ⟨.ref _,_,I.lnew (t':=s.toks) (r.append r2) (by rw [List.length_append];omega),rfl,q _ I.fresh⟩
def rRep:R2:=fun x y H Q=>∃ l k xs,x=.ref l/\y=.int k/\H l=some (.lst xs)/\-(2 ^ 63)<=k/\k < 2 ^ 63/\xs.length * k.toNat<=sizeLine /\
 ∀ p,H p=none->Q (.ref p) (upd H p (.lst (List.replicate k.toNat xs).flatten))
theorem len_rep {α:Type} (xs:List α) (k:Nat):(List.replicate k xs).flatten.length=k * xs.length:=by
 induction k with
 | zero=>simp
 | succ k ih=>rw [List.replicate_succ,List.flatten_cons,List.length_append,ih,Nat.succ_mul,Nat.add_comm]
theorem op_rep:OpR X (binaryOp .Mult) rRep:=by
 intro pins s σ H x y v u Q I rx ry h
 obtain ⟨l,k,xs,rfl,rfl,hH,h1,h2,hz,q⟩:=h
 cases rx
 obtain ⟨t,rfl⟩:=ry
 obtain ⟨z,its,n,r,hl,e⟩:=I.lstM hH
 have hlen:its.toArray.size * k.toNat<=sizeLine:=by rw [List.size_toArray,<- hl];exact hz
 have hcap:¬ its.toArray.size * k.toNat > (2 ^ 63 - 1) / 8:=by
  have:(sizeLine:Nat)<=(2 ^ 63 - 1) / 8:=by decide
  omega
 have hfit:¬ (!Builtin.List.listFitsIndex k)=true:=by
  rw [fitsIndex_both h1 h2]
  exact Bool.false_ne_true
 have hlong:¬ Builtin.List.listTooLong (its.toArray.size * k.toNat)=true:=by
  rw [notLongL hlen]
  exact Bool.false_ne_true
 have hnew:List.foldl (fun x1 x2=>x1++x2) #[] (List.replicate (if its.toArray.isEmpty=true then 0 else k.toNat) its.toArray)=(List.replicate k.toNat its).flatten.toArray:=by
  have f0:∀ m:Nat,List.foldl (fun x1 x2=>x1++x2) #[] (List.replicate m its.toArray)=(List.replicate m its).flatten.toArray:=fun m=>by
   have:=foldl_rep its m []
   rw [List.nil_append] at this
   exact this
  rw [f0]
  cases its with
  | nil=>simp
  | cons a r'=>rw [if_neg (by simp)]
 refine wpAny_binaryOp_repeat_ref (T:="list") (U:="int") (by decide) ⟨_,e,rfl⟩ (fun s'=>typeIs_int s' k t) noFill_list_mul F.fills_int_mul F.slot_int_rmul repeat_list F.slot_int_index.lookup
  (call_meets F.slot_int_rmul (typeIs_int s k t) F.entry_int_rmul (F.args_int_rmul_2 _ _) (int___rmul___int_list k t l its.toArray n)
   ⟨e,rfl,⟨_,e,rfl⟩,call_meets F.slot_list_mul ⟨_,e,rfl⟩ F.entry_list_mul (F.args_list_mul_2 _ _) (AutoListH.list___mul___list_int_3 l its.toArray n k t hfit hcap hlong) ⟨e,?_⟩⟩)
 rw [hnew]
 exact ⟨.ref _,_,I.lnew (t':=s.toks) (r.rep k.toNat) (by rw [len_rep,Nat.mul_comm];exact hz),rfl,q _ I.fresh⟩
end
section
variable {prog:Program} {w:World} {A:Around} {E:Value->Shared->Prop} {s:Shared}
set_option maxRecDepth 100000 in
end
section
variable {X:Cx}
end
end L2
namespace L2
open PySem PySem.Spec PyProof.Rows
section
variable {κ:Type} [DecidableEq κ]
def valV (kvs:List (κ × V)) (k:κ):Option V:=(kvs.find? fun kv=>decide (kv.1=k)).map (·.2)
def putK (kvs:List (κ × V)) (k:κ) (v:V):List (κ × V) :=
 if (kvs.any fun kv=>decide (kv.1=k))=true then kvs.map (fun kv=>if kv.1=k then (kv.1,v) else kv) else kvs++[(k,v)]
theorem valV_pos {p:κ × V} {r:List (κ × V)} {k:κ} (e:p.1=k):valV (p :: r) k=some p.2:=by simp [valV,List.find?_cons,e]
theorem valV_neg {p:κ × V} {r:List (κ × V)} {k:κ} (e:¬ p.1=k):valV (p :: r) k=valV r k:=by simp [valV,List.find?_cons,e]
theorem valV_any (k:κ):∀ kvs:List (κ × V),(kvs.any fun kv=>decide (kv.1=k))=(valV kvs k).isSome
 | []=>rfl
 | p :: r=>by
  rw [List.any_cons]
  by_cases e:p.1=k
  ·simp only [valV_pos e,decide_eq_true e,Bool.true_or,Option.isSome_some]
  ·rw [valV_neg e,decide_eq_false e,Bool.false_or];exact valV_any k r
theorem length_putK (kvs:List (κ × V)) (k:κ) (v:V):(putK kvs k v).length<=kvs.length + 1:=by
 unfold putK
 split
 ·rw [List.length_map];omega
 ·rw [List.length_append,List.length_cons,List.length_nil];omega
theorem RelO.isSome_eq {o:Option V} {u:Option Value} (r:RelO o u):o.isSome=u.isSome:=by
 cases o with
 | none=>cases u with
  | none=>rfl
  | some _=>exact (show False from r).elim
 | some _=>cases u with
  | none=>exact (show False from r).elim
  | some _=>rfl
theorem RelO.getD {o:Option V} {u:Option Value} {d:V} {d':Value} (r:RelO o u) (rd:RelV d d'):RelV (o.getD d) (u.getD d'):=by
 cases o with
 | none=>cases u with
  | none=>exact rd
  | some _=>exact (show False from r).elim
 | some _=>cases u with
  | none=>exact (show False from r).elim
  | some _=>exact r
theorem KV.val {kvs:List (κ × V)} {vs:List (κ × Value)} (r:KV kvs vs) (k:κ):RelO (valV kvs k) (valueAt vs k):=by
 unfold KV at r
 induction r with
 | nil=>exact True.intro
 | @cons p q ps qs h t ih =>
  obtain ⟨h1,h2⟩:=h
  by_cases e:p.1=k
  ·have e':q.1=k:=h1.symm.trans e
   have b:valueAt (q :: qs) k=some q.2:=by simp [valueAt,List.find?_cons,e']
   rw [valV_pos e,b];exact h2
  ·have e':¬ q.1=k:=fun z=>e (h1.trans z)
   have b:valueAt (q :: qs) k=valueAt qs k:=by simp [valueAt,List.find?_cons,e']
   rw [valV_neg e,b];exact ih
theorem KV.any {kvs:List (κ × V)} {vs:List (κ × Value)} (r:KV kvs vs) (k:κ):(kvs.any fun kv=>decide (kv.1=k))=vs.any fun kv=>decide (kv.1=k):=by
 unfold KV at r
 induction r with
 | nil=>rfl
 | cons h t ih=>rw [List.any_cons,List.any_cons,ih,h.1]
theorem KV.repl {kvs:List (κ × V)} {vs:List (κ × Value)} (r:KV kvs vs) (k:κ) {y:V} {u:Value} (ry:RelV y u) :
  KV (kvs.map fun kv=>if kv.1=k then (kv.1,y) else kv) (vs.map fun kv=>if kv.1=k then (kv.1,u) else kv):=by
 unfold KV at r ⊢
 induction r with
 | nil=>exact .nil
 | @cons p q ps qs h t ih =>
  rw [List.map_cons,List.map_cons]
  refine .cons ?_ ih
  obtain ⟨h1,h2⟩:=h
  by_cases e:p.1=k
  ·rw [if_pos e,if_pos (h1.symm.trans e)];exact ⟨h1,ry⟩
  ·rw [if_neg e,if_neg (fun z=>e (h1.trans z))];exact ⟨h1,h2⟩
theorem KV.put {kvs:List (κ × V)} {vs:List (κ × Value)} (r:KV kvs vs) (k:κ) {y:V} {u:Value} (ry:RelV y u):KV (putK kvs k y) (stored vs k u):=by
 unfold putK stored
 rw [r.any k]
 by_cases e:(vs.any fun kv=>decide (kv.1=k))=true
 ·rw [if_pos e,if_pos e];exact r.repl k ry
 ·rw [if_neg e,if_neg e];exact Paired.snoc r ⟨rfl,ry⟩
theorem KV.length {kvs:List (κ × V)} {vs:List (κ × Value)} (r:KV kvs vs):kvs.length=vs.length:=Paired.length r
end
theorem kV_is {P:Program} {w:World} {k:Key} {u:Value} (r:RelV (kV k) u):(mixKind P w).is k u=true:=by
 cases k with
 | inl i=>obtain ⟨t,e⟩:=(show ∃ t,u=Value.int i t from r);subst e;exact mixKind_int P w i t
 | inr x=>obtain ⟨t,e⟩:=(show ∃ t,u=Value.str x t from r);subst e;exact mixKind_str P w x t
theorem items_are {P:Program} {w:World}:∀ {ks:List Key} {us:List Value},Vals (ks.map kV) us->ItemsAre (mixKind P w) ks us
 | [],_,r=>by rw [List.map_nil] at r;cases r;exact .nil
 | k :: ks,_,r=>by
  rw [List.map_cons] at r
  cases r with
  | cons h t=>exact .cons (kV_is h) (items_are t)
abbrev KT (H:Hp):List (List Key × V)->List (List Key × Addr × Value)->Prop:=Paired fun p q=>p.1=q.1/\H q.2.1=some (.tup (p.1.map kV))/\RelV p.2 q.2.2
theorem KT.val {H:Hp} {kvs:List (List Key × V)} {xs:List (List Key × Addr × Value)} (r:KT H kvs xs) (k:List Key):RelO (valV kvs k) ((atKey xs k).map (·.2)):=by
 induction r with
 | nil=>exact True.intro
 | @cons p q ps qs h t ih =>
  obtain ⟨h1,_,h2⟩:=h
  by_cases e:p.1=k
  ·have e':q.1=k:=h1.symm.trans e
   have b:atKey (q :: qs) k=some q.2:=by simp [atKey,List.find?_cons,e']
   rw [valV_pos e,b];exact h2
  ·have e':¬ q.1=k:=fun z=>e (h1.trans z)
   have b:atKey (q :: qs) k=atKey qs k:=by simp [atKey,List.find?_cons,e']
   rw [valV_neg e,b];exact ih
theorem KT.repl {H:Hp} {kvs:List (List Key × V)} {xs:List (List Key × Addr × Value)} (r:KT H kvs xs) (k:List Key) {y:V} {u:Value} (ry:RelV y u) :
  KT H (kvs.map fun kv=>if kv.1=k then (kv.1,y) else kv) (xs.map (putAt k u)):=by
 induction r with
 | nil=>exact .nil
 | @cons p q ps qs h t ih =>
  rw [List.map_cons,List.map_cons]
  refine .cons ?_ ih
  obtain ⟨h1,h2,h3⟩:=h
  unfold putAt
  by_cases e:p.1=k
  ·rw [if_pos e,if_pos (h1.symm.trans e)];exact ⟨h1,h2,ry⟩
  ·rw [if_neg e,if_neg (fun z=>e (h1.trans z))];exact ⟨h1,h2,h3⟩
theorem KT.put {H:Hp} {kvs:List (List Key × V)} {xs:List (List Key × Addr × Value)} (r:KT H kvs xs) (k:List Key) {b:Addr} {y:V} {u:Value} (hb:H b=some (.tup (k.map kV))) (ry:RelV y u) :
  KT H (putK kvs k y) (storedH xs k b u):=by
 have e:(kvs.any fun kv=>decide (kv.1=k))=(atKey xs k).isSome:=by
  rw [valV_any,(r.val k).isSome_eq,Option.isSome_map]
 unfold putK storedH
 rw [e]
 by_cases q:(atKey xs k).isSome=true
 ·rw [if_pos q,if_pos q];exact r.repl k ry
 ·rw [if_neg q,if_neg q];exact Paired.snoc r ⟨rfl,hb,ry⟩
theorem KT.keeps {H H':Hp} {kvs:List (List Key × V)} {xs:List (List Key × Addr × Value)} (r:KT H kvs xs) (ht:∀ b ys,H b=some (.tup ys)->H' b=some (.tup ys)):KT H' kvs xs :=
 Paired.mapP r fun _ _ z=>⟨z.1,ht _ _ z.2.1,z.2.2⟩
section
variable {P:Program} {w:World} {H:Hp} {h:Heap} {a:Addr}
theorem rd_of {u:HO} (ok:HOk P w H h) (e:Rd H a u):ObjOk P w H h a u:=e.ok ok
theorem dk_rd {kvs:List (Key × V)} (ok:HOk P w H h) (e:Rd H a (.dK kvs)):kvs.length<=sizeLine/\(a == sysModules)=false/\∃ vs,KV kvs vs/\h.DictOf (mixKind P w) a vs :=
 show ObjOk P w H h a (.dK kvs) from rd_of ok e
theorem dk_of {kvs:List (Key × V)} (ok:HOk P w H h) (e:H a=some (.dK kvs)):kvs.length<=sizeLine/\(a == sysModules)=false/\∃ vs,KV kvs vs/\h.DictOf (mixKind P w) a vs:=dk_rd ok (.inl e)
theorem key_of {ks:List Key} (ok:HOk P w H h) (e:H a=some (.tup (ks.map kV))):(tupleKind (mixKind P w)).is h ks a:=by
 obtain ⟨_,its,r,o,h1,h2,n,h3⟩:=(show ObjOk P w H h a (.tup (ks.map kV)) from ok a _ e)
 exact ⟨o,its.toArray,n,h1,h2,h3,by simpa using items_are r⟩
theorem dt_rd {kvs:List (List Key × V)} (ok:HOk P w H h) (e:Rd H a (.dT kvs)):kvs.length<=sizeLine/\(a == sysModules)=false /\
  ∃ xs,KT H kvs xs/\h.DictOfH (tupleKind (mixKind P w)) a xs:=by
 obtain ⟨z,y,xs,r,o,es,ep,h1,h2,h3,h4,h5⟩:=(show ObjOk P w H h a (.dT kvs) from rd_of ok e)
 refine ⟨z,y,xs,r,o,es,ep,h1,h2,h3,h4,fun x hx=>?_,h5⟩
 have all:∀ {l:List (List Key × V)} {m:List (List Key × Addr × Value)},KT H l m->∀ x ∈ m,(tupleKind (mixKind P w)).is h x.1 x.2.1:=by
  intro l m q
  induction q with
  | nil=>intro x hx;exact nomatch hx
  | @cons p q ps qs hq t ih =>
   intro x hx
   rcases List.mem_cons.mp hx with e | hx
   ·subst e
    exact key_of ok (by rw [<- hq.1];exact hq.2.1)
   ·exact ih x hx
 exact all r x hx
theorem dt_of {kvs:List (List Key × V)} (ok:HOk P w H h) (e:H a=some (.dT kvs)):kvs.length<=sizeLine/\(a == sysModules)=false /\
  ∃ xs,KT H kvs xs/\h.DictOfH (tupleKind (mixKind P w)) a xs:=dt_rd ok (.inl e)
end
def DGet (H:Hp) (a:Addr) (y:V) (r:Option V):Prop :=
 (∃ kvs k,Rd H a (.dK kvs)/\y=kV k/\r=valV kvs k)\/∃ kvs k b,Rd H a (.dT kvs)/\y=.ref b/\H b=some (.tup (k.map kV))/\r=valV kvs k
def DPut (H:Hp) (a:Addr) (y v:V) (H':Hp):Prop :=
 (∃ kvs k,H a=some (.dK kvs)/\y=kV k/\kvs.length < sizeLine/\H'=upd H a (.dK (putK kvs k v))) \/
 ∃ kvs k b,H a=some (.dT kvs)/\y=.ref b/\H b=some (.tup (k.map kV))/\kvs.length < sizeLine/\H'=upd H a (.dT (putK kvs k v))
theorem DGet.k {H:Hp} {a:Addr} {kvs:List (Key × V)} {k:Key} (e:H a=some (.dK kvs)):DGet H a (kV k) (valV kvs k):=.inl ⟨kvs,k,.inl e,rfl,rfl⟩
theorem DGet.t {H:Hp} {a b:Addr} {kvs:List (List Key × V)} {k:List Key} (e:H a=some (.dT kvs)) (eb:H b=some (.tup (k.map kV))):DGet H a (.ref b) (valV kvs k):=.inr ⟨kvs,k,b,.inl e,rfl,eb,rfl⟩
theorem DPut.k {H:Hp} {a:Addr} {kvs:List (Key × V)} {k:Key} {v:V} (e:H a=some (.dK kvs)) (hl:kvs.length < sizeLine):DPut H a (kV k) v (upd H a (.dK (putK kvs k v))):=.inl ⟨kvs,k,e,rfl,hl,rfl⟩
theorem DPut.t {H:Hp} {a b:Addr} {kvs:List (List Key × V)} {k:List Key} {v:V} (e:H a=some (.dT kvs)) (eb:H b=some (.tup (k.map kV))) (hl:kvs.length < sizeLine) :
  DPut H a (.ref b) v (upd H a (.dT (putK kvs k v))):=.inr ⟨kvs,k,b,e,rfl,eb,hl,rfl⟩
section
variable {X:Cx} {pins:List (Addr × Obj)} {σ:St} {H:Hp} {s:Shared} {a:Addr} {y v:V} {u r:Value} {o:Option V} {A:Around} {E:Value->Shared->Prop}
theorem Inv.big (I:Inv X pins σ H s):sysModules < s.heap.objs.size:=by
 have h:mainGlobals < s.heap.objs.size:=(I.mod.glob.keeps I.bk).lt
 exact Nat.lt_trans (by decide) h
theorem d_getItem {Q:Value->Shared->Prop} (hu:A.units + 1 < cLine) (I:Inv X pins σ H s) (g:DGet H a y (some v)) (ry:RelV y u) (h:∀ w' s',Inv X pins σ H s'->RelV v w'->Q w' s') :
  wpAny (model X.prog X.w) A (getItem (.ref a) u) Q E s:=by
 rcases g with ⟨kvs,k,e,ey,l⟩ | ⟨kvs,k,b,e,ey,eb,l⟩
 ·subst ey
  obtain ⟨z,hd,vs,rel,dd⟩:=dk_rd I.hok e
  obtain ⟨w',hw,rw'⟩:=RelO.some_of (v:=v) (o:=valueAt vs k) (by rw [l];exact rel.val k)
  exact wpAny_getItem_of (kV_is ry) dd.mapOf hw (h w' _ (I.tok _) rw')
 ·subst ey
  cases (show u=Value.ref b from ry)
  obtain ⟨z,hd,xs,rel,dd⟩:=dt_rd I.hok e
  obtain ⟨w',hw,rw'⟩:=RelO.some_of (v:=v) (o:=(atKey xs k).map (·.2)) (by rw [l];exact rel.val k)
  obtain ⟨p,hp,hp2⟩:=Option.map_eq_some_iff.mp hw
  refine wpAny_getItem_heap (tupleKind_room_in1 hu) (key_of I.hok eb) dd hp ?_
  rw [hp2]
  exact h w' _ (I.tok _) rw'
theorem d_in {Q:Value->Shared->Prop} (hu:A.units + 1 < cLine) (I:Inv X pins σ H s) (g:DGet H a y o) (ry:RelV y u) (h:∀ s',Inv X pins σ H s'->Q (.bool o.isSome) s') :
  wpAny (model X.prog X.w) A (compareOp .In u (.ref a)) Q E s:=by
 rcases g with ⟨kvs,k,e,ey,l⟩ | ⟨kvs,k,b,e,ey,eb,l⟩
 ·subst ey
  obtain ⟨z,hd,vs,rel,dd⟩:=dk_rd I.hok e
  refine wpAny_in_of (kV_is ry) hd dd.mapOf ?_
  rw [<- (rel.val k).isSome_eq,<- l]
  exact h _ (I.tok _)
 ·subst ey
  cases (show u=Value.ref b from ry)
  obtain ⟨z,hd,xs,rel,dd⟩:=dt_rd I.hok e
  refine wpAny_in_heap (tupleKind_room_in1 hu) (key_of I.hok eb) hd dd ?_
  have q:=(rel.val k).isSome_eq
  rw [Option.isSome_map] at q
  rw [<- q,<- l]
  exact h _ (I.tok _)
theorem d_notIn {Q:Value->Shared->Prop} (hu:A.units + 1 < cLine) (I:Inv X pins σ H s) (g:DGet H a y o) (ry:RelV y u) (h:∀ s',Inv X pins σ H s'->Q (.bool (!o.isSome)) s') :
  wpAny (model X.prog X.w) A (compareOp .NotIn u (.ref a)) Q E s:=by
 rcases g with ⟨kvs,k,e,ey,l⟩ | ⟨kvs,k,b,e,ey,eb,l⟩
 ·subst ey
  obtain ⟨z,hd,vs,rel,dd⟩:=dk_rd I.hok e
  refine wpAny_notIn_of (kV_is ry) hd dd.mapOf ?_
  rw [<- (rel.val k).isSome_eq,<- l]
  exact h _ (I.tok _)
 ·subst ey
  cases (show u=Value.ref b from ry)
  obtain ⟨z,hd,xs,rel,dd⟩:=dt_rd I.hok e
  refine wpAny_notIn_heap (tupleKind_room_in1 hu) (key_of I.hok eb) hd dd ?_
  have q:=(rel.val k).isSome_eq
  rw [Option.isSome_map] at q
  rw [<- q,<- l]
  exact h _ (I.tok _)
theorem d_write {h':Heap} {t':Nat} {ob:HO} (I:Inv X pins σ H s) (mu:Mut (H a)) (hs:Heap.SameBut a s.heap h') (he:∃ q,h'.get? a=some q) (new:ObjOk X.prog X.w (upd H a ob) h' a ob) :
  Inv X pins σ (upd H a ob) { s with heap:=h',toks:=t' } :=
 I.write (x:=a) (e:=a) mu (.inl rfl) (fun b q hb z=>(hs.2 b hb).trans z) he new
theorem dk_new {P:Program} {w:World} {H':Hp} {h':Heap} {kvs:List (Key × V)} {vs:List (Key × Value)} (z:kvs.length<=sizeLine) (hd:(a == sysModules)=false) (rel:KV kvs vs) (dd:h'.DictOf (mixKind P w) a vs) :
  ObjOk P w H' h' a (.dK kvs):=⟨z,hd,vs,rel,dd⟩
theorem d_setItem {H':Hp} {Q:Unit->Shared->Prop} (hu:A.units + 1 < cLine) (I:Inv X pins σ H s) (g:DPut H a y v H') (ry:RelV y u) (rv:RelV v r) (h:∀ s',Inv X pins σ H' s'->Q () s') :
  wpAny (model X.prog X.w) A (setItem (.ref a) u r) Q E s:=by
 rcases g with ⟨kvs,k,e,ey,l,eH⟩ | ⟨kvs,k,b,e,ey,eb,l,eH⟩
 ·subst ey eH
  obtain ⟨z,hd,vs,rel,dd⟩:=dk_of I.hok e
  have hz:vs.length<=sizeLine:=by rw [<- rel.length];exact z
  have hl:(putK kvs k v).length<=sizeLine:=by have:=length_putK kvs k v;omega
  refine wpAny_setItem_pairs (hsz:=hz) (kV_is ry) dd fun h' dd' hs=>h _ ?_
  have he:∃ q,h'.get? a=some q:=let ⟨q,_,_,hq,_⟩:=dd';⟨q,hq⟩
  exact d_write I (by rw [e];exact True.intro) hs he (dk_new hl hd (rel.put k rv) dd')
 ·subst ey eH
  cases (show u=Value.ref b from ry)
  obtain ⟨z,hd,xs,rel,dd⟩:=dt_of I.hok e
  have hz:xs.length<=sizeLine:=by rw [<- Paired.length rel];exact z
  have hl:(putK kvs k v).length<=sizeLine:=by have:=length_putK kvs k v;omega
  refine wpAny_setItem_heap (hsz:=hz) (tupleKind_room_in1 hu) (key_of I.hok eb) dd fun h' dd' hs=>h _ ?_
  obtain ⟨q,es,ep,hq,h2,h3,h4,_,h5⟩:=dd'
  refine d_write I (by rw [e];exact True.intro) hs ⟨q,hq⟩ ⟨hl,hd,_,(rel.put k eb rv).keeps fun c ys ec=>?_,q,es,ep,hq,h2,h3,h4,h5⟩
  rw [upd_ne (ne_of ec e (fun z=>nomatch z))]
  exact ec
end
section
variable {X:Cx} {pins:List (Addr × Obj)} {σ:St} {H:Hp} {s:Shared} {a:Addr} {kvs:List (Key × V)} {k:Key} {u:Value} {A:Around} {E:Value->Shared->Prop}
theorem d_len {Q:Value->Shared->Prop} (I:Inv X pins σ H s) (e:Rd H a (.dK kvs)) (h:∀ t s',Inv X pins σ H s'->Q (.int kvs.length t) s'):wpAny (model X.prog X.w) A (call (.builtin "len") [.ref a]) Q E s:=by
 obtain ⟨z,hd,vs,rel,dd⟩:=dk_rd I.hok e
 refine call_len_dict hd dd (by rw [<- rel.length];rw [sizeLine_eq] at z;omega) ?_
 rw [<- rel.length]
 exact h _ _ (I.tok _)
end
theorem dict_typeIs {X:Cx} {pins:List (Addr × Obj)} {σ:St} {H:Hp} {s:Shared} {a:Addr} {y:V} {o:Option V} (I:Inv X pins σ H s) (g:DGet H a y o):s.TypeIs (.ref a) "dict" := by
 rcases g with ⟨kvs,k,e,_,_⟩ | ⟨kvs,k,b,e,_,_,_⟩
 ·obtain ⟨_,_,vs,_,dd⟩:=dk_rd I.hok e
  exact dd.typeIs
 ·obtain ⟨_,_,xs,_,dd⟩:=dt_rd I.hok e
  exact dd.typeIs
section
variable {X:Cx} {o i e value:Expr} {pos pos' tpos:Pos} {td ty tv:TE}
end
theorem dk_empty {P:Program} {w:World} {H:Hp} (h:Heap) (hb:sysModules < h.objs.size):ObjOk P w H (h.push { cls:=.type "dict",data:=.dict #[] }) h.objs.size (.dK []) :=
 ⟨Nat.zero_le _,beq_eq_false_iff_ne.mpr (Ne.symm (Nat.ne_of_lt hb)),[],.nil,Heap.DictOf.new h⟩
theorem dt_empty {P:Program} {w:World} {H:Hp} (h:Heap) (hb:sysModules < h.objs.size):ObjOk P w H (h.push { cls:=.type "dict",data:=.dict #[] }) h.objs.size (.dT []) :=
 ⟨Nat.zero_le _,beq_eq_false_iff_ne.mpr (Ne.symm (Nat.ne_of_lt hb)),[],.nil,_,#[],0,Heap.get?_push_size _ rfl,⟨rfl,rfl,rfl⟩,rfl,rfl,List.nodup_nil⟩
def tDNewK:TE:=fun _ H Q=>∀ p,H p=none->Q (.ref p) (upd H p (.dK []))
def tDNewT:TE:=fun _ H Q=>∀ p,H p=none->Q (.ref p) (upd H p (.dT []))
section
variable {X:Cx} {pos:Pos}
theorem pe_dnewK:PE X (.Dict [] [] pos) tDNewK:=fun pins s σ H Q I h =>
 wpAny_Dict_empty ⟨.ref s.heap.objs.size,_,I.laid (a:=s.heap.objs.size) (o:=.dK []) (t':=s.toks) (fun _ _ q=>Heap.get?_push_of_some _ q) (Nat.le_refl _) (dk_empty s.heap I.big),rfl,h _ (I.hok.fresh (Nat.le_refl _))⟩
theorem pe_dnewT:PE X (.Dict [] [] pos) tDNewT:=fun pins s σ H Q I h =>
 wpAny_Dict_empty ⟨.ref s.heap.objs.size,_,I.laid (a:=s.heap.objs.size) (o:=.dT []) (t':=s.toks) (fun _ _ q=>Heap.get?_push_of_some _ q) (Nat.le_refl _) (dt_empty s.heap I.big),rfl,h _ (I.hok.fresh (Nat.le_refl _))⟩
end
structure M1 (X:Cx) (o:Expr) (m:Str) (apos:Pos) (e:Expr) (cpos:Pos):Prop where
 base:attributeBase o m X.env (eval o X.env)=eval o X.env
 few:((backTo cpos (starEach [e] X.env)).all (fun x=>!x.1) && (backToKw cpos (keywordEach [] X.env)).all (fun x=>x.1.isSome)
  && decide (([e]:List Expr).length + ([]:List Keyword).length + (if ([]:List Keyword).isEmpty then 0 else 1) < 30))=true
 line:(apos.endLine == cpos.line)=true
 trees:backTo cpos (starEach [e] X.env)=[(false,eval e X.env)]
structure M2 (X:Cx) (o:Expr) (m:Str) (apos:Pos) (e f:Expr) (cpos:Pos):Prop where
 base:attributeBase o m X.env (eval o X.env)=eval o X.env
 few:((backTo cpos (starEach [e,f] X.env)).all (fun x=>!x.1) && (backToKw cpos (keywordEach [] X.env)).all (fun x=>x.1.isSome)
  && decide (([e,f]:List Expr).length + ([]:List Keyword).length + (if ([]:List Keyword).isEmpty then 0 else 1) < 30))=true
 line:(apos.endLine == cpos.line)=true
 trees:backTo cpos (starEach [e,f] X.env)=[(false,eval e X.env),(false,eval f X.env)]
def IsD (H:Hp) (a:Addr):Prop:=(∃ kvs,Rd H a (.dK kvs))\/∃ kvs,Rd H a (.dT kvs)
theorem isD_at {X:Cx} {pins:List (Addr × Obj)} {σ:St} {H:Hp} {s:Shared} {a:Addr} (I:Inv X pins σ H s) (d:IsD H a) :
  s.TypeIs (.ref a) "dict"/\(∀ b,Value.ref a=.ref b->∃ ob,s.heap.get? b=some ob/\ob.dict=none)/\(a == sysModules)=false:=by
 rcases d with ⟨kvs,e⟩ | ⟨kvs,e⟩
 ·obtain ⟨_,hd,vs,_,dd⟩:=dk_rd I.hok e
  refine ⟨dd.typeIs,fun b q=>?_,hd⟩
  cases q
  obtain ⟨ob,_,_,h1,h2,_⟩:=dd
  exact ⟨ob,h1,h2.2.1⟩
 ·obtain ⟨_,hd,xs,_,dd⟩:=dt_rd I.hok e
  refine ⟨dd.typeIs,fun b q=>?_,hd⟩
  cases q
  obtain ⟨ob,_,_,h1,h2,_⟩:=dd
  exact ⟨ob,h1,h2.2.1⟩
section
variable {X:Cx} {pins:List (Addr × Obj)} {σ:St} {H:Hp} {s:Shared} {a:Addr} {y d:V} {u r:Value} {o:Option V} {A:Around} {E:Value->Shared->Prop}
theorem d_get1 {Q:Value->Shared->Prop} (hu:A.units + 1 < cLine) (I:Inv X pins σ H s) (g:DGet H a y o) (ry:RelV y u) (h:∀ w' s',Inv X pins σ H s'->RelV (o.getD .non) w'->Q w' s') :
  wpAny (model X.prog X.w) A (call (.builtin "dict.get") [.ref a,u]) Q E s:=by
 rcases g with ⟨kvs,k,e,ey,l⟩ | ⟨kvs,k,b,e,ey,eb,l⟩
 ·subst ey
  obtain ⟨z,hd,vs,rel,dd⟩:=dk_rd I.hok e
  refine call_meetsIn PySem.F.slot_dict_get dd.typeIs PySem.F.entry_dict_get (PySem.F.args_dict_get_2 _ _) (meets_dict_get (mixKind X.prog X.w) a (kV_is ry) hd) ⟨_,dd.mapOf,h _ _ (I.tok _) ?_⟩
  rw [l]
  exact (rel.val k).getD rfl
 ·subst ey
  cases (show u=Value.ref b from ry)
  obtain ⟨z,hd,xs,rel,dd⟩:=dt_rd I.hok e
  refine call_meetsIn PySem.F.slot_dict_get dd.typeIs PySem.F.entry_dict_get (PySem.F.args_dict_get_2 _ _) (meetsH_dict_get (tupleKind (mixKind X.prog X.w)) a b hd) ⟨tupleKind_room_in1 hu,k,xs,key_of I.hok eb,dd,h _ _ (I.tok _) ?_⟩
  rw [l]
  exact (rel.val k).getD rfl
theorem d_get2 {Q:Value->Shared->Prop} (hu:A.units + 1 < cLine) (I:Inv X pins σ H s) (g:DGet H a y o) (ry:RelV y u) (rd:RelV d r) (h:∀ w' s',Inv X pins σ H s'->RelV (o.getD d) w'->Q w' s') :
  wpAny (model X.prog X.w) A (call (.builtin "dict.get") [.ref a,u,r]) Q E s:=by
 rcases g with ⟨kvs,k,e,ey,l⟩ | ⟨kvs,k,b,e,ey,eb,l⟩
 ·subst ey
  obtain ⟨z,hd,vs,rel,dd⟩:=dk_rd I.hok e
  refine call_meetsIn PySem.F.slot_dict_get dd.typeIs PySem.F.entry_dict_get (PySem.F.args_dict_get_3 _ _ _) (meets_dict_get_default (mixKind X.prog X.w) a (kV_is ry) hd r) ⟨_,dd.mapOf,h _ _ (I.tok _) ?_⟩
  rw [l]
  exact (rel.val k).getD rd
 ·subst ey
  cases (show u=Value.ref b from ry)
  obtain ⟨z,hd,xs,rel,dd⟩:=dt_rd I.hok e
  refine call_meetsIn PySem.F.slot_dict_get dd.typeIs PySem.F.entry_dict_get (PySem.F.args_dict_get_3 _ _ _) (meetsH_dict_get_default (tupleKind (mixKind X.prog X.w)) a b hd r) ⟨tupleKind_room_in1 hu,k,xs,key_of I.hok eb,dd,h _ _ (I.tok _) ?_⟩
  rw [l]
  exact (rel.val k).getD rd
end
def tDGet1 (td ty:TE):TE:=fun σ H Q=>td σ H fun x H1=>∃ a,x=.ref a/\IsD H1 a/\ty σ H1 fun y H2=>∃ o,DGet H2 a y o/\Q (o.getD .non) H2
def tDGet2 (td ty tx:TE):TE:=fun σ H Q=>td σ H fun x H1=>∃ a,x=.ref a/\IsD H1 a/\ty σ H1 fun y H2=>tx σ H2 fun z H3=>∃ o,DGet H3 a y o/\Q (o.getD z) H3
section
variable {X:Cx} {o e f:Expr} {apos cpos:Pos} {td ty tx:TE}
theorem pe_dget1 (hu:X.A.units + 1 < cLine) (ho:PE X o td) (he:PE X e ty) (m:M1 X o "get" apos e cpos):PE X (.Call (.Attribute o "get" apos) [e] [] cpos) (tDGet1 td ty):=by
 intro pins s σ H Q I h
 refine wpAny_Call_method m.base m.few m.line PySem.F.plainAttrs_dict PySem.F.slot_dict_get PySem.F.type_dict_get (thn (ho pins s σ H _ I h) fun u s1 ⟨x,H1,I1,rx,a,ex,d,q1⟩=>?_)
 subst ex
 obtain rfl:u=Value.ref a:=rx
 obtain ⟨t1,t2,_⟩:=isD_at I1 d
 refine ⟨t1,t2,?_⟩
 rw [m.trees]
 refine Calls.callWith_builtin rfl (Calls.evalArgs_plain (Calls.spliced_cons (thn (he pins s1 σ H1 _ I1 q1) fun iv s2 ⟨y,H2,I2,ry,ov,g,q2⟩=>Calls.spliced_nil ?_)))
 exact d_get1 hu I2 g ry fun w' s3 I3 rw'=>⟨_,H2,I3,rw',q2⟩
theorem pe_dget2 (hu:X.A.units + 1 < cLine) (ho:PE X o td) (he:PE X e ty) (hf:PE X f tx) (m:M2 X o "get" apos e f cpos):PE X (.Call (.Attribute o "get" apos) [e,f] [] cpos) (tDGet2 td ty tx):=by
 intro pins s σ H Q I h
 refine wpAny_Call_method m.base m.few m.line PySem.F.plainAttrs_dict PySem.F.slot_dict_get PySem.F.type_dict_get (thn (ho pins s σ H _ I h) fun u s1 ⟨x,H1,I1,rx,a,ex,d,q1⟩=>?_)
 subst ex
 obtain rfl:u=Value.ref a:=rx
 obtain ⟨t1,t2,_⟩:=isD_at I1 d
 refine ⟨t1,t2,?_⟩
 rw [m.trees]
 refine Calls.callWith_builtin rfl (Calls.evalArgs_plain (Calls.spliced_cons (thn (he pins s1 σ H1 _ I1 q1) fun iv s2 ⟨y,H2,I2,ry,q2⟩ =>
  Calls.spliced_cons (thn (hf pins s2 σ H2 _ I2 q2) fun fv s3 ⟨z,H3,I3,rz,ov,g,q3⟩=>Calls.spliced_nil ?_))))
 exact d_get2 hu I3 g ry rz fun w' s4 I4 rw'=>⟨_,H3,I4,rw',q3⟩
end
section
variable {X:Cx} {pins:List (Addr × Obj)} {σ:St} {H:Hp} {s:Shared} {a:Addr} {kvs:List (Key × V)} {A:Around} {E:Value->Shared->Prop}
end
section
variable {X:Cx} {pins:List (Addr × Obj)} {σ:St} {H:Hp} {s:Shared} {a:Addr} {y:V} {u:Value} {A:Around} {E:Value->Shared->Prop}
end
end L2
namespace Att
open PySem PySem.W PySem.Calls PyProof.Rows
theorem ints_of_wellAll {P:Params} {h:Heap}:∀ (ns:List Int) (vs:List Value),WellAll P h vs (ns.map WData.int)->IntsAre vs ns:=by
 intro ns
 induction ns with
 | nil =>
  intro vs w
  rw [List.map_nil] at w
  cases w
  exact .nil
 | cons n ns ih =>
  intro vs w
  rw [List.map_cons] at w
  cases w with
  | cons a b =>
   cases a
   exact .cons _ _ (ih _ b)
theorem script_of {l:OpenLaw} {n:Nat} (hn:l.most=some n) {P:Params} {h:Heap} {args:List WData} {vals:List Value}
  (hpre:l.row.toRowW.claim.pre args=true) (hwl:WellAll P h vals args) :
  ∃ a vs ns,vals=[Value.ref a]/\args=[WData.list (ns.map WData.int)]/\h.get? a=some { cls:=.type "list",data:=.seq vs.toArray }/\IntsAre vs ns/\ns.length<=n:=by
 have hsh:WShape.hasAll [] args [.list .int]=true:=(pre_splitW hpre).1
 have hc:l.pre.holds [] { args:=args }=true:=(pre_splitW hpre).2
 obtain ⟨d,r,rfl,h1,h2⟩:=hasAllW_cons hsh
 obtain rfl:=hasAllW_nil h2
 obtain ⟨xs,rfl,h3⟩:=hasW_list h1
 obtain ⟨ns,rfl⟩:=items_int h3
 have hlen:ns.length<=n:=by
  unfold OpenLaw.pre at hc
  have h4:(WTm.not (.lt (.lit (.int (n:Int))) (.len (.arg 0)))).holds [] { args:=[.list (ns.map .int)] }=true:=by
   have h4:=(holds_andW hc).1
   rw [hn] at h4
   exact h4
  have h5:=condW_of h4 (w_not (w_lt w_lit (w_len_list (w_arg rfl))))
  rw [List.length_map] at h5
  refine Nat.le_of_not_lt fun q=>?_
  have q':(n:Int) < ((ns.length:Nat):Int):=by omega
  first
   | (rw [decide_eq_true q'] at h5;exact absurd h5 (by decide))
   | (simp at h5;omega)
 cases hwl with
 | cons w1 w2 =>
  cases w2
  cases w1 with
  | list ho hall=>exact ⟨_,_,ns,rfl,rfl,ho,ints_of_wellAll ns _ hall,hlen⟩
theorem post_true (l:OpenLaw) (args:List WData):l.row.toRowW.claim.post args (.bool true) args=true :=
 postW_of (r:=l.row.toRowW) (X:=(true == true))
  (show WShape.has [] (.bool true) .bool=true by first | rfl | decide | simp [WShape.has,WShape.arms,WShape.armsAll])
  (show (WTm.eq .res (.lit (.bool true))).value [] { args:=args,res:=some (.bool true),after:=args }=some (.bool (true == true)) from w_eq_bool (w_res rfl) w_lit) rfl
theorem attach_call {l:OpenLaw} {n:Nat} {q:Program} {loose:List Str} {XP:(Str->Option Value)->Heap->Prop} {YP:World->Heap->Prop} {d:DefRec}
  (hn:l.most=some n) (hdf:d.params.defaults=[])
  (call:∀ (w:World) (s₀ s₁:Shared) (mg mb:Str->Option Value) (fa:Addr) (o:Obj) (pm cd doc:Value) (a:Addr) (vs:List Value) (ns:List Int),
   Ground q loose [] XP w s₀ mg mb s₁.heap->YP w s₁.heap ->
   s₁.heap.get? fa=some o->o.data=.func (docDef d.name d.params d.body d.scope pm cd doc)->s₁.heap.CodeRec cd d.name->mg d.name=some (.ref fa) ->
   s₁.heap.get? a=some { cls:=.type "list",data:=.seq vs.toArray }->IntsAre vs ns->ns.length<=n->s₁.gens=#[] ->
   codeAny (model l.prog w) callerA (.call (.ref fa) ⟨[.ref a],[]⟩) (fun r s'=>r=.ok (.ret (.bool true))/\OldK s₁.heap s'.heap/\s'.os=s₁.os/\AllBare s'.gens) s₁) :
  WalkO q loose XP YP l.row.toRowW d [] (fun f vs=>PySem.call f vs):=by
 intro w s₀ s₁ mg mb G Y fa o pm cd doc dV kV ho hd hcd hD hmg hg args vals as hpre hlay hrd hwl hlo
 obtain rfl:dV=.none:=Dflts.none hD hdf
 obtain rfl:kV=.none:=Dflts.noKw hD
 obtain ⟨a,vs,ns,rfl,rfl,hobj,hints,hlen⟩:=script_of hn hpre hwl
 refine enter_call (codeAny_mono (call w s₀ s₁ mg mb fa o pm cd doc a vs ns G Y ho (fd_plain hd) hcd hmg hobj hints hlen hg) fun r s' hq=>?_)
 obtain ⟨rfl,h2,h3,h4⟩:=hq
 exact ⟨.inl ⟨.bool true,.bool true,[],rfl,fun _=>rfl,.bool true,post_true l _,fun _=>⟨List.Pairwise.nil,fun _ hm=>(nomatch hm)⟩⟩,h2,h3,h4⟩
section
variable {prog:Program} {w:World} {A:Around} {E:Value->Shared->Prop} {s:Shared} {K:Frag}
end
end Att
namespace L2
open PySem PySem.Spec PyProof.Rows
theorem vals_ints:∀ {vs:List Value} {ns:List Int},IntsAre vs ns->Vals (ns.map V.int) vs
 | _,_,.nil=>.nil
 | _,_,.cons n t h=>.cons ⟨t,rfl⟩ (vals_ints h)
end L2
namespace L2
open PySem PySem.Spec PyProof.Rows
end L2
namespace L2
open PySem PySem.Spec PyProof.Rows
def defArgs (s:Stmt):Arguments:=match s with
 | .FunctionDef _ a _ _ _ _ _ _ _ _=>a
 | _=>{ posonlyargs:=[],args:=[],vararg:=none,kwonlyargs:=[],kw_defaults:=[],kwarg:=none,defaults:=[] }
def defBody (s:Stmt):List Stmt:=match s with
 | .FunctionDef _ _ b _ _ _ _ _ _ _=>b
 | _=>[]
def defScope (s:Stmt):Scope:=match s with
 | .FunctionDef _ _ _ _ _ _ sc _ _ _=>sc
 | _=>{ kind:=.function,names:=[],isGenerator:=false,isCoroutine:=false }
structure Fun (K:PySem.W.Frag) (x qual:Str) (st:Stmt) (f:Addr) (fd:FuncData):Prop where
 ex:∃ (oc:Value) (od:Option Addr) (kV doc pm:Value) (an:Option Addr) (cdv ct:Value) (osl:Array (Option Value)),
  fd=PySem.W.fnOf x qual (defArgs st) (defBody st) (defScope st) .none kV doc pm an cdv ct/\K.lookup f=some ⟨oc,od,.func fd,osl⟩/\PySem.W.codeIn K cdv qual=true
 kp:PySem.W.keepIn K (.ref f)=true
section
variable {P:Program} {w:World} {K:PySem.W.Frag} {mg:Str->Option Value} {base:Heap}
theorem Fun.binds {x qual:Str} {st:Stmt} {f:Addr} {fd:FuncData} {ps:List Str} (F:Fun K x qual st f fd)
  (h:∀ (kV doc pm:Value) (an:Option Addr) (cdv ct:Value) (us:List Value),us.length=ps.length->bindArgs (PySem.W.fnOf x qual (defArgs st) (defBody st) (defScope st) .none kV doc pm an cdv ct) ⟨us,[]⟩=pure (ps.zip us)):Binds K fd ps []:=by
 obtain ⟨oc,od,kV,doc,pm,an,cdv,ct,osl,rfl,lk,hcd⟩:=F.ex
 exact .all (h kV doc pm an cdv ct)
theorem fun_mk {x qual:Str} {st:Stmt} {f:Addr} {oc:Value} {od an:Option Addr} {osl:Array (Option Value)} {kV doc pm cdv ct:Value} (l:K.lookup f=some ⟨oc,od,.func (PySem.W.fnOf x qual (defArgs st) (defBody st) (defScope st) .none kV doc pm an cdv ct),osl⟩)
  (c:PySem.W.codeIn K cdv qual=true) (k:PySem.W.keepIn K (.ref f)=true):Fun K x qual st f (PySem.W.fnOf x qual (defArgs st) (defBody st) (defScope st) .none kV doc pm an cdv ct):=⟨⟨oc,od,kV,doc,pm,an,cdv,ct,osl,rfl,l,c⟩,k⟩
end
section
variable {X:Cx}
theorem call_lenD:CallR X (.builtin "len") (fun xs H Q=>∃ a kvs,xs=[V.ref a]/\H a=some (.dK kvs)/\Q (.int kvs.length) H):=by
 intro pins s σ H xs us Q I r h
 obtain ⟨a,kvs,rfl,ha,q⟩:=h
 obtain ⟨u,rfl,ru⟩:=vals1 r
 cases ru
 exact d_len I (.inl ha) fun t s' I'=>⟨.int kvs.length,H,I',⟨t,rfl⟩,q⟩
end
theorem iteF {A B:Prop} (h:B):if false=true then A else B:=by
 rw [if_neg Bool.false_ne_true]
 exact h
theorem iteT {A B:Prop} (h:A):if true=true then A else B:=by
 rw [if_pos rfl]
 exact h
section
variable {κ:Type} [DecidableEq κ]
end
end L2
namespace FX
open PySem
theorem dict_mapFields (o:Obj) (f:Array Value->Array Value):(o.mapFields f).dict=o.dict:=by
 obtain ⟨c,d,dt,sl⟩:=o
 cases dt <;> rfl
structure Gone (fr:List Addr) (e:Addr) (T:Option Addr) (h h':Heap):Prop where
 keep:∀ b o,b ≠ e->T ≠ some b->b ∉ fr->h.get? b=some o->h'.get? b=some o
 slot:∀ b o,b ≠ e->T ≠ some b->h.get? b=some o->∃ sl,h'.get? b=some { o with slots:=sl }
 there:∀ b o,h.get? b=some o->∃ o',h'.get? b=some o'
def Fly (h:Heap) (e:Addr) (cls:Value) (n:Nat) (T:Addr) (fl:Value) (dO:Option Addr):Prop :=
 ∃ oe vs oT ts,h.get? e=some oe/\(oe.cls=cls/\oe.dict=dO)/\oe.data=.fields vs/\vs.size=n/\vs[1]?=some (.ref T)/\vs[2]?=some .none/\T ≠ e/\h.get? T=some oT/\oT.data=.fields ts/\ts[3]?=some fl
def Fresh (h:Heap) (e:Addr) (cls:Value) (n:Nat) (dO:Option Addr):Prop:=∃ oe vs,h.get? e=some oe/\(oe.cls=cls/\oe.dict=dO)/\oe.data=.fields vs/\vs.size=n/\vs[1]?=some .none/\vs[2]?=some .none
section
variable {M:Model} {A:Around} {E:Value->Shared->Prop} {s:Shared}
theorem entry_all {base:Heap} {env:Env} {outer:List Env} {L e:Addr} {oe:Obj} {vs:Array Value} {head:Value} {more:Bool} {Q:Unit->Shared->Prop}
  (hfr:A.frames=some (env :: outer)) (hl:s.heap.FunFrames base (env :: outer)) (hf:env.frame=some L) (he:s.heap.get? e=some oe) (hd:oe.data=.fields vs) (hz:1 < vs.size) (h2:vs[2]?=some .none)
  (k:∀ h' T,Gone ((env :: outer).filterMap (·.frame)) e none s.heap h'->s.heap.get? T=none->Fly h' e oe.cls vs.size T (rawInt L) oe.dict->Q () { s with heap:=h' }) :
  wpAny M A (do let a <- frameOf env;let pl <- entryPlaceOf L more;let b <- EntryCells.newEntry head a .none (rawInt L) .none pl;setField (.ref e) 1 b) Q E s:=by
 have nfr:e ∉ (env :: outer).filterMap (·.frame):=fun hm=>by
  obtain ⟨_,o,ho,hn⟩:=hl.mem hm
  rw [he] at ho;cases ho;exact hn vs hd
 refine wpAny_bind (wpAny_frameOf_fun hfr hl hf fun g hg=>wpAny_bind (wpAny_entryPlaceOf fun pl hpl=>?_))
 unfold EntryCells.newEntry newFields
 refine wpAny_bind (wpAny_newObj_type ?_ (hpl.sizeOk5 _ _ _ _ _))
 have hts3:(([head,Value.ref L,Value.none,rawInt L,Value.none]++(if pl.isEmpty then List.replicate 6 Value.none else pl)).toArray)[3]?=some (rawInt L):=by simp
 revert hts3
 generalize (([head,Value.ref L,Value.none,rawInt L,Value.none]++(if pl.isEmpty then List.replicate 6 Value.none else pl)).toArray)=ts
 intro hts3
 have ge:g.get? e=some oe:=(hg.2.1 e nfr).trans he
 refine wpAny_setField (Heap.get?_push_of_some _ ge) hd hz ?_
 have nT:g.objs.size ≠ e:=Nat.ne_of_gt (Heap.lt_size ge)
 have stays:∀ b o,b ≠ e->g.get? b=some o->((g.push ⟨.type "traceback",none,.fields ts,#[]⟩).update e (Obj.mapFields (·.setIfInBounds 1 (Value.ref g.objs.size)))).get? b=some o:=fun b o hb q=>by
  rw [Heap.get?_update_other _ _ (Ne.symm hb)]
  exact Heap.get?_push_of_some _ q
 have dm:=Obj.data_mapFields hd (·.setIfInBounds 1 (Value.ref g.objs.size))
 have atE:=Heap.get?_update_self (Obj.mapFields (·.setIfInBounds 1 (Value.ref g.objs.size))) (Heap.get?_push_of_some ⟨.type "traceback",none,.fields ts,#[]⟩ ge) (Obj.isFreed_of_fields dm)
 have atT:((g.push ⟨.type "traceback",none,.fields ts,#[]⟩).update e (Obj.mapFields (·.setIfInBounds 1 (Value.ref g.objs.size)))).get? g.objs.size=some ⟨.type "traceback",none,.fields ts,#[]⟩:=by
  rw [Heap.get?_update_other _ _ (Ne.symm nT)]
  exact Heap.get?_push_size g rfl
 refine k _ g.objs.size ⟨fun b o hb _ hn q=>?_,fun b o hb _ q=>?_,fun b o q=>?_⟩ ?_ ?_
 ·exact stays b o hb ((hg.2.1 b hn).trans q)
 ·obtain ⟨sl,z⟩:=hg.2.2 b o q
  exact ⟨sl,stays b _ hb z⟩
 ·by_cases hb:b=e
  ·subst hb;exact ⟨_,atE⟩
  ·obtain ⟨sl,z⟩:=hg.2.2 b o q
   exact ⟨_,stays b _ hb z⟩
 ·rw [hg.1]
  exact Heap.get?_none_of_le (Nat.le_refl _)
 ·exact ⟨_,_,_,_,atE,⟨Obj.cls_mapFields _ _,dict_mapFields _ _⟩,dm,by simp,by simp [hz],by rw [Array.getElem?_setIfInBounds_ne (by decide)];exact h2,nT,atT,rfl,hts3⟩
theorem note_fresh {base:Heap} {env:Env} {outer:List Env} {L e:Addr} {cls:Value} {n:Nat} {dO:Option Addr} {Q:Unit->Shared->Prop} (hn:1 < n)
  (hfr:A.frames=some (env :: outer)) (hl:s.heap.FunFrames base (env :: outer)) (hf:env.frame=some L) (he:Fresh s.heap e cls n dO)
  (k:∀ h' T,Gone ((env :: outer).filterMap (·.frame)) e none s.heap h'->s.heap.get? T=none->Fly h' e cls n T (rawInt L) dO->Q () { s with heap:=h' }):wpAny M A (noteFrame (.ref e) env) Q E s:=by
 obtain ⟨oe,vs,ge,⟨rfl,rfl⟩,hd,rfl,h1,h2⟩:=he
 unfold noteFrame
 simp only [hf]
 refine wpAny_bind (wpAny_field ge hd h1 ?_)
 rw [if_neg (by decide)]
 exact entry_all hfr hl hf ge hd hn h2 k
theorem note_fly {base:Heap} {env:Env} {outer:List Env} {L e T:Addr} {cls:Value} {n:Nat} {dO:Option Addr} {Q:Unit->Shared->Prop} (hn:1 < n)
  (hfr:A.frames=some (env :: outer)) (hl:s.heap.FunFrames base (env :: outer)) (hf:env.frame=some L) (he:Fly s.heap e cls n T .none dO)
  (k:∀ h' T',Gone ((env :: outer).filterMap (·.frame)) e (some T) s.heap h'->s.heap.get? T'=none->Fly h' e cls n T' (rawInt L) dO->Q () { s with heap:=h' }):wpAny M A (noteFrame (.ref e) env) Q E s:=by
 obtain ⟨oe,vs,oT,ts,ge,⟨rfl,rfl⟩,hd,rfl,h1,h2,nT,gT,dT,h3⟩:=he
 unfold noteFrame
 simp only [hf]
 refine wpAny_bind (wpAny_field ge hd h1 ?_)
 rw [if_pos (show (Value.ref T != Value.none)=true from by simp)]
 refine wpAny_bind (wpAny_field gT dT h3 ?_)
 rw [if_neg (show ¬ ((Value.none == rawInt L)=true) from by simp [rawInt])]
 refine wpAny_bind (wpAny_setField gT dT (Array.getElem?_eq_some_iff.mp h3).1 ?_)
 have oth:∀ b,b ≠ T->(s.heap.update T (Obj.mapFields (·.setIfInBounds 3 Value.none))).get? b=s.heap.get? b:=fun b hb=>Heap.get?_update_other _ _ (Ne.symm hb)
 have atT:=Heap.get?_update_self (Obj.mapFields (·.setIfInBounds 3 Value.none)) gT (Obj.isFreed_of_fields (Obj.data_mapFields dT _))
 have hl':(s.heap.update T (Obj.mapFields (·.setIfInBounds 3 Value.none))).FunFrames base (env :: outer):=hl.of_keeps fun b o hb q=>⟨o,(oth b fun z=>by rw [z,gT] at hb;cases hb;exact q ts dT).trans hb,rfl⟩
 refine entry_all hfr hl' hf ((oth e (Ne.symm nT)).trans ge) hd hn h2 fun h' T' g new fly=>k h' T' ⟨fun b o hb ht hm q=>?_,fun b o hb ht q=>?_,fun b o q=>?_⟩ ?_ fly
 ·exact g.keep b o hb (by simp) hm ((oth b fun z=>ht (by rw [z])).trans q)
 ·exact g.slot b o hb (by simp) ((oth b fun z=>ht (by rw [z])).trans q)
 ·by_cases hb:b=T
  ·subst hb;exact g.there _ _ atT
  ·exact g.there b o ((oth b hb).trans q)
 ·cases q:s.heap.get? T' with
  | none=>rfl
  | some o =>
   by_cases hb:T'=T
   ·subst hb;rw [atT] at new;cases new
   ·rw [oth T' hb,q] at new;cases new
theorem flight_none {e T:Addr} {cls fl:Value} {n:Nat} {dO:Option Addr} {Q:Unit->Shared->Prop} (he:Fly s.heap e cls n T fl dO)
  (k:∀ h',(∀ b o,b ≠ T->s.heap.get? b=some o->h'.get? b=some o)->(∃ o',h'.get? T=some o')->(∀ b,s.heap.get? b=none->h'.get? b=none)->Fly h' e cls n T .none dO->Q () { s with heap:=h' }):wpAny M A (setFlight (.ref e) none) Q E s:=by
 obtain ⟨oe,vs,oT,ts,ge,⟨rfl,rfl⟩,hd,rfl,h1,h2,nT,gT,dT,h3⟩:=he
 unfold setFlight
 refine wpAny_bind (wpAny_field ge hd h1 ?_)
 rw [if_pos (show (Value.ref T != Value.none)=true from by simp)]
 have hz:3 < ts.size:=(Array.getElem?_eq_some_iff.mp h3).1
 refine wpAny_setField gT dT hz ?_
 have oth:∀ b,b ≠ T->(s.heap.update T (Obj.mapFields (·.setIfInBounds 3 ((none:Option Addr).elim Value.none fun f=>rawInt f)))).get? b=s.heap.get? b:=fun b hb=>Heap.get?_update_other _ _ (Ne.symm hb)
 have atT:=Heap.get?_update_self (Obj.mapFields (·.setIfInBounds 3 ((none:Option Addr).elim Value.none fun f=>rawInt f))) gT (Obj.isFreed_of_fields (Obj.data_mapFields dT _))
 refine k _ (fun b o hb q=>(oth b hb).trans q) ⟨_,atT⟩ (fun b q=>(oth b fun z=>by rw [z,gT] at q;cases q).trans q) ⟨oe,vs,_,_,(oth e (Ne.symm nT)).trans ge,⟨rfl,rfl⟩,hd,rfl,h1,h2,nT,atT,Obj.data_mapFields dT _,by simp [hz]⟩
end
end FX
namespace FX
open PySem
section
variable {prog:Program} {w:World} {A:Around} {E:Value->Shared->Prop} {s:Shared}
theorem entry_unchain:entryFor table "proto.unchain" = some Builtin.«proto.unchain»:=entryFor_of_tree (by kernel_rfl)
theorem raiseNew_in {α:Type} {Q:α->Shared->Prop} {h e:Addr} {oh oe:Obj} {fh fe:Array Value} (hh:A.handled=some (.ref h)) (ne:h ≠ e) (gh:s.heap.get? h=some oh) (dh:oh.data=.fields fh) (c2:fh[2]?=some .none)
  (ge:s.heap.get? e=some oe) (de:oe.data=.fields fe) (z:2 < fe.size) (k:E (.ref e) { s with heap:=s.heap.update e (Obj.mapFields (·.setIfInBounds 2 (.ref h))) }):wpAny (model prog w) A (raiseNew (.ref e):Sem α) Q E s:=by
 unfold raiseNew
 refine wpAny_bind (wpAny_handled ?_)
 rw [hh]
 dsimp only
 rw [if_pos (by simp [ne])]
 refine wpAny_bind (wpAny_holding (PyProof.Rows.runValue_entry entry_unchain ?_))
 unfold Builtin.«proto.unchain»
 dsimp only
 refine wpAny_bind (wpAny_field gh dh c2 ?_)
 rw [if_pos (by decide)]
 refine wpAny_pure ⟨_,rfl,wpAny_bind ?_⟩
 unfold updateField
 refine wpAny_bind (wpAny_load ge ?_)
 rw [de]
 dsimp only
 rw [if_pos z]
 exact wpAny_update ge (wpAny_throw k)
def Held (h:Heap) (v:Value):Prop:=∃ a o fs,v=.ref a/\h.get? a=some o/\o.data=.fields fs/\fs[2]?=some .none
theorem stop_any {α:Type} {Q:α->Shared->Prop} (hh:A.handled=none\/∃ v,A.handled=some v/\Held s.heap v)
  (k:∀ h' e,(∀ b o,s.heap.get? b=some o->h'.get? b=some o)->(∃ o,h'.get? e=some o/\o.cls=.type "StopIteration")->E (.ref e) { s with heap:=h' }):wpAny (model prog w) A (do let x <- newExc (.type "StopIteration") [];raiseNew x:Sem α) Q E s:=by
 simp only [newExc,newTuple]
 refine wpAny_bind (wpAny_bind (wpAny_newObj_type ?_ (by size_fits)))
 refine wpAny_bind (m:=firstArgMember _ _) (wpAny_of_eq (a:=Value.none) (by first | rfl | (simp only [firstArgMember];rfl)) ?_)
 refine wpAny_newObj_type ?_ (by size_fits)
 have kp:∀ b o,s.heap.get? b=some o->((s.heap.push { cls:=.type "tuple",data:=.seq #[] }).push { cls:=.type "StopIteration",data:=.fields (#[Value.ref s.heap.objs.size,.none,.none,.none,.bool false,.none]++ownMembersOf (.type "StopIteration") []) }).get? b=some o:=fun b o q=>Heap.get?_push_of_some _ (Heap.get?_push_of_some _ q)
 rcases hh with hh | ⟨v,hh,a,oa,fa,rfl,ga,da,c2⟩
 ·refine wpAny_raiseNew_none hh (k _ _ kp ⟨_,Heap.get?_push_size _ rfl,rfl⟩)
 ·have ne:a ≠ (s.heap.push { cls:=.type "tuple",data:=.seq #[] }).objs.size:=Nat.ne_of_lt (Heap.lt_size (Heap.get?_push_of_some _ ga))
  refine raiseNew_in hh ne (kp _ _ ga) da c2 (Heap.get?_push_size _ rfl) rfl (by simp;omega) (k _ _ (fun b o q=>?_) ⟨_,Heap.get?_update_self _ (Heap.get?_push_size _ rfl) (Obj.isFreed_of_fields (Obj.data_mapFields rfl _)),Obj.cls_mapFields _ _⟩)
  rw [Heap.get?_update_other _ _ (Ne.symm (Nat.ne_of_lt (Heap.lt_size (Heap.get?_push_of_some { cls:=.type "tuple",data:=.seq #[] } q))))]
  exact kp b o q
end
end FX
namespace FX
open PySem
section
variable {prog:Program} {w:World} {A:Around} {E:Value->Shared->Prop} {s:Shared}
def Calm (A:Around) (h:Heap):Prop:=A.handled=none\/∃ v,A.handled=some v/\Held h v
theorem Held.keep {h h':Heap} {v:Value} (x:Held h v) (k:∀ b o,h.get? b=some o->(∃ fs,o.data=.fields fs/\fs[2]?=some .none)->∃ o',h'.get? b=some o'/\∃ fs,o'.data=.fields fs/\fs[2]?=some .none):Held h' v:=by
 obtain ⟨a,o,fs,e,g,d,c⟩:=x
 obtain ⟨o',g',fs',d',c'⟩:=k a o g ⟨fs,d,c⟩
 exact ⟨a,o',fs',e,g',d',c'⟩
theorem Held.keeps {h h':Heap} {v:Value} (x:Held h v) (k:∀ b o,h.get? b=some o->h'.get? b=some o):Held h' v:=x.keep fun b o g r=>⟨o,k b o g,r⟩
theorem Calm.keeps {h h':Heap} (x:Calm A h) (k:∀ b o,h.get? b=some o->h'.get? b=some o):Calm A h':=by
 rcases x with x | ⟨v,x,y⟩
 ·exact .inl x
 ·exact .inr ⟨v,x,y.keeps k⟩
theorem next_list_end {it l:Addr} {i:Nat} {items:Array Value} {Q:Option Value->Shared->Prop} (hh:Calm A s.heap) (hit:s.heap.IsListIter it l i) (hl:s.heap.IsList l items) (hx:items[i]?=none) (hne:∀ v,A.handled=some v->v ≠ .ref it)
  (hQ:∀ h',Heap.ExtBut it s.heap h'->Q none { s with heap:=h' }):wpAny (model prog w) A (pyNext (.ref it)) Q E s:=by
 obtain ⟨o,ho,hc,hd⟩:=id hit
 obtain ⟨ol,hol,_,nl,hdl⟩:=hl
 unfold pyNext
 refine wpAny_bind (wpAny_attempt (wpAny_callSpecial?_slot (name:=Str.ofString "__next__") hit.typeIs slot_listiter_next (wpAny_call_entry slot_listiter_next hit.typeIs entry_listiter_next ?_ (args_listiter_next _))))
 show wpAny _ _ (field (.ref it) 0 >>= _) _ _ s
 refine wpAny_bind (wpAny_field ho hd (x:=.ref l) rfl ?_)
 show wpAny _ _ (if (Value.ref l == Value.none)=true then _ else _) _ _ s
 rw [if_neg (by intro z;cases z)]
 refine wpAny_bind (wpAny_field ho hd (x:=.int i 0) rfl (wpAny_bind (wpAny_seqItems hol hdl ?_)))
 simp only [Int.toNat_natCast,hx]
 refine wpAny_bind (wpAny_rule (wpAny_bind (wpAny_setField ho hd (by simp) ?_)))
 have oth:∀ b o',b ≠ it->s.heap.get? b=some o'->(s.heap.update it (Obj.mapFields (·.setIfInBounds 0 Value.none))).get? b=some o':=fun b o' hb q=>(Heap.get?_update_other _ _ (Ne.symm hb)).trans q
 unfold Builtin.SmallTypes.stopIteration
 refine stop_any (A:=A.in1) ?_ fun h' e kp ⟨oe,ge,ce⟩=>?_
 ·rcases hh with hh | ⟨v,hv,a,oa,fa,rfl,ga,da,c2⟩
  ·exact .inl hh
  ·exact .inr ⟨_,hv,a,oa,fa,rfl,oth a oa (fun z=>hne _ hv (by rw [z])) ga,da,c2⟩
 ·refine wpAny_bind (wpAny_isInstance (T:="StopIteration") (b:=true) ⟨_,ge,ce⟩ isSubtype_stop ?_)
  exact wpAny_pure (hQ _ fun b o' hb q=>kp b o' (oth b o' hb q))
end
section
variable {M:Model} {A:Around} {E:Value->Shared->Prop}
variable {nm q nm' q':Str} {C N D N':Addr} {bs bm bs' bm':List Value} {hdct hdct':Bool} {sn sn':List Str} {sub sub':List Value} {ab ab':Bool} {col col':Option Bool} {dd dd':Option Addr} {k0 k1 k2 k3 k5 l0 l1 l2 l3 l5:Option Value} {newId newId':String}
theorem matches_own {h:Heap} {g:Array GenState} {d:Drawn} {t:Nat} {os:OsState} {e:Addr} {oe:Obj} {Q:Bool->Shared->Prop}
  (hC:h.get? C=some (excClassObj nm q C N bs bm hdct sn sub ab col dd k0 k1 k2 k3 k5 newId)) (hD:h.get? D=some (excClassObj nm' q' D N' bs' bm' hdct' sn' sub' ab' col' dd' l0 l1 l2 l3 l5 newId'))
  (he:h.get? e=some oe) (hcls:oe.cls=.ref C) (hbase:bm'.contains (.type "BaseException")=true)
  (hq:Q ((Value.ref C :: bm).contains (.ref D)) ⟨h,g,d,t,os⟩):wpAny M A (excMatches (.ref e) (.ref D)) Q E ⟨h,g,d,t,os⟩:=by
 have hB:(Value.ref D :: bm').contains (.type "BaseException")=true:=by rw [List.contains_cons,hbase,Bool.or_true]
 have f:=tc_notTuple
 unfold excMatches
 generalize hb:(Value.ref C :: bm).contains (.ref D)=r at hq
 repeat (first | (with_reducible refine wpAny_loadPart_at he ?_;rw [hcls]) | with_reducible refine wpAny_loadPart_at hD ?_ | (with_reducible refine wpAny_isSubtype_exc hD ?_;rw [hB]) | (with_reducible refine wpAny_isSubtype_exc hC ?_;rw [hb]) | wp_step)
 cases r <;> (wp_walk;exact hq)
end
end FX
namespace FS
open PySem PySem.Spec PyProof.Rows L2
abbrev St:=L2.St
inductive PV where
 | non | bl (b:Bool) | int (i:Int) | str (x:Str) | tup (xs:List PV) | ref (i:Nat) | adr (a:Addr) | ty (n:String)
 | exc (C:Addr) (ns:List Str) (xs:List PV)
inductive VO where
 | lst (xs:List PV) | scr (xs:List Int) | dct (kvs:List (PV × PV)) | dtp (kvs:List (PV × PV)) | ins (C:Addr) (fs:List (Str × PV)) | st (xs:List Int) | dfz (kvs:List (PV × PV))
abbrev VH:=List VO
structure XV where
 cls:Addr
 ns:List Str
 xs:List PV
inductive Out (α:Type) where
 | ok (a:α) (h:VH) | exc (x:XV) (h:VH) | bad
abbrev M (α:Type):=VH->Out α
namespace M
def ret {α:Type} (a:α):M α:=fun h=>.ok a h
def bind {α β:Type} (m:M α) (k:α->M β):M β:=fun h=>match m h with
 | .ok a h'=>k a h'
 | .exc x h'=>.exc x h'
 | .bad=>.bad
def bad {α:Type}:M α:=fun _=>.bad
end M
abbrev Tau:=List (Option PV)
abbrev FE:=Tau->M PV
abbrev FT:=Tau->M Bool
abbrev FA:=Tau->M (List PV)
inductive Fl where
 | next (τ:Tau) (h:VH) | brk (τ:Tau) (h:VH) | cont (τ:Tau) (h:VH) | ret (v:PV) (h:VH) | exc (x:XV) (h:VH) | bad
abbrev FSt:=Tau->VH->Fl
def ExcPhi (e C:Addr) (dO:Option Addr):Heap->Prop:=fun h=>∃ oe fs,h.get? e=some oe/\oe.cls=.ref C/\oe.dict=dO/\oe.data=.fields fs/\fs[2]?=some .none/\5 < fs.size
mutual
def Rep (ρ:List Addr) (H:Hp):PV->V->Prop
 | .non,v=>v=.non
 | .bl b,v=>v=.bl b
 | .int i,v=>v=.int i
 | .str x,v=>v=.str x
 | .ref i,v=>∃ a,ρ[i]?=some a/\v=.ref a
 | .adr a,v=>v=.ref a
 | .ty n,v=>v=.ty n
 | .tup xs,v=>∃ a vs,v=.ref a/\H a=some (.tup vs)/\Reps ρ H xs vs
 | .exc C ns xs,v=>∃ e dO,v=.ref e/\H e=some (.ext (ExcPhi e C dO))/\((dO=none/\ns=[]/\xs=[])\/∃ d vs,dO=some d/\H d=some (.xd (ns.zip vs))/\ns.length=xs.length/\Reps ρ H xs vs)
def Reps (ρ:List Addr) (H:Hp):List PV->List V->Prop
 | [],vs=>vs=[]
 | x :: xs,vs=>∃ v ws,vs=v :: ws/\Rep ρ H x v/\Reps ρ H xs ws
end
def scK:PV->Option Key
 | .int i=>some (.inl i)
 | .str x=>some (.inr x)
 | _=>none
def scKs:List PV->Option (List Key)
 | []=>some []
 | x :: xs=>match scK x,scKs xs with
  | some k,some ks=>some (k :: ks)
  | _,_=>none
def tpK:PV->Option (List Key)
 | .tup xs=>scKs xs
 | _=>none
def GRep {κ:Type} (kf:PV->Option κ) (ρ:List Addr) (H:Hp):List (PV × PV)->List (κ × V)->Prop
 | [],l=>l=[]
 | p :: ps,l=>∃ k v r,l=(k,v) :: r/\kf p.1=some k/\Rep ρ H p.2 v/\GRep kf ρ H ps r
def FRep (ρ:List Addr) (H:Hp):List (Str × PV)->List (Str × V)->Prop
 | [],l=>l=[]
 | p :: ps,l=>∃ v r,l=(p.1,v) :: r/\Rep ρ H p.2 v/\FRep ρ H ps r
def ORel (ρ:List Addr) (H:Hp) (a:Addr):VO->Prop
 | .lst xs=>∃ vs,H a=some (.lst vs)/\Reps ρ H xs vs
 | .scr ns=>∃ o,H a=some (.frz o (.lst (ns.map V.int)))
 | .dct kvs=>∃ l,H a=some (.dK l)/\GRep scK ρ H kvs l
 | .dtp kvs=>∃ l,H a=some (.dT l)/\GRep tpK ρ H kvs l
 | .st xs=>xs.Nodup/\H a=some (.set (fun i=>xs.contains i) xs.length)
 | .dfz kvs=>∃ o l,H a=some (.frz o (.dK l))/\GRep scK ρ H kvs l
 | .ins C fs=>∃ dx l,H a=some (.ins C dx l)/\FRep ρ H fs l
def TabOk (H:Hp) (P:Addr) (q:Str):Prop:=∃ ps,H P=some (.tbl ps)/\TriplesOk ps.toList /\
 ∀ pos cv,codeAmong pos ps.toList=some cv->∃ c' φ,cv=.ref c'/\H c'=some (.ext φ)/\∀ h:Heap,φ h->h.CodeRec (.ref c') q
abbrev Tb:=List (Addr × Addr × Str)
structure Sim (tb:Tb) (ρ:List Addr) (vh:VH) (H:Hp):Prop where
 tab:∀ c P q,(c,P,q) ∈ tb->TabOk H P q
 nd:ρ.Nodup
 len:ρ.length=vh.length
 obj:∀ (i:Nat) (a:Addr) (o:VO),ρ[i]?=some a->vh[i]?=some o->ORel ρ H a o
def Cnt:HO->Prop
 | .lst _=>True
 | .frz _ _=>True
 | .dK _=>True
 | .dT _=>True
 | .set _ _=>True
 | .ins _ _ _=>True
 | _=>False
def Imm:HO->Prop
 | .tup _=>True
 | .ext _=>True
 | .xd _=>True
 | _=>False
theorem Cnt.no {u v:HO} (c:Cnt u) (i:Imm v):v ≠ u:=fun z=>by subst z;cases v <;> first | exact c | exact i
structure KeepW (ρ ρ':List Addr) (H H':Hp):Prop where
 imm:∀ a u,Imm u->H a=some u->H' a=some u
 fr:∀ a u,Cnt u->a ∉ ρ->H a=some u->H' a=some u
 nw:∀ p ∈ ρ',p ∉ ρ->∀ u,Cnt u->H p ≠ some u
structure Keep (ρ ρ':List Addr) (H H':Hp):Prop extends KeepW ρ ρ' H H' where
 fz:∀ a o u,H a=some (.frz o u)->H' a=some (.frz o u)
variable {tb:Tb}
theorem KeepW.trans {ρ ρ1 ρ2:List Addr} {H H1 H2:Hp} (x:KeepW ρ ρ1 H H1) (y:KeepW ρ1 ρ2 H1 H2):KeepW ρ ρ2 H H2 :=
 ⟨fun a u i h=>y.imm a u i (x.imm a u i h),fun a u c n h=>y.fr a u c (fun z=>x.nw a z n u c h) (x.fr a u c n h),
  fun p hp n u c h=>y.nw p hp (fun z=>x.nw p z n u c h) u c (x.fr p u c n h)⟩
theorem Keep.refl {ρ:List Addr} {H:Hp}:Keep ρ ρ H H:=⟨⟨fun _ _ _ h=>h,fun _ _ _ _ h=>h,fun _ h n=>absurd h n⟩,fun _ _ _ h=>h⟩
theorem Keep.trans {ρ ρ1 ρ2:List Addr} {H H1 H2:Hp} (x:Keep ρ ρ1 H H1) (y:Keep ρ1 ρ2 H1 H2):Keep ρ ρ2 H H2 :=
 ⟨x.toKeepW.trans y.toKeepW,fun a o u h=>y.fz a o u (x.fz a o u h)⟩
theorem pre_get {ρ ρ':List Addr} (p:ρ<+:ρ') {i:Nat} {a:Addr} (h:ρ[i]?=some a):ρ'[i]?=some a:=by
 obtain ⟨t,rfl⟩:=p
 rw [List.getElem?_append_left (List.getElem?_eq_some_iff.mp h).1];exact h
mutual
theorem Rep.monoW {ρ ρ':List Addr} {H H':Hp} (p:ρ<+:ρ') (k:KeepW ρ ρ' H H'):∀ {x:PV} {v:V},Rep ρ H x v->Rep ρ' H' x v
 | .non,_,h=>h
 | .bl _,_,h=>h
 | .int _,_,h=>h
 | .str _,_,h=>h
 | .ref _,_,h=>let ⟨a,e,z⟩:=h;⟨a,pre_get p e,z⟩
 | .adr _,_,h=>h
 | .ty _,_,h=>h
 | .tup xs,_,h=>let ⟨a,vs,e,z,r⟩:=h;⟨a,vs,e,k.imm a _ trivial z,Reps.monoW p k r⟩
 | .exc C ns xs,_,h=>by
  obtain ⟨e,dO,z1,z2,z3⟩:=h
  refine ⟨e,dO,z1,k.imm _ _ trivial z2,?_⟩
  rcases z3 with z3 | ⟨d,vs,q1,q2,q3,q4⟩
  ·exact .inl z3
  ·exact .inr ⟨d,vs,q1,k.imm _ _ trivial q2,q3,Reps.monoW p k q4⟩
theorem Reps.monoW {ρ ρ':List Addr} {H H':Hp} (p:ρ<+:ρ') (k:KeepW ρ ρ' H H'):∀ {xs:List PV} {vs:List V},Reps ρ H xs vs->Reps ρ' H' xs vs
 | [],_,h=>h
 | _ :: _,_,h=>let ⟨v,ws,e,r,t⟩:=h;⟨v,ws,e,Rep.monoW p k r,Reps.monoW p k t⟩
end
theorem GRep.monoW {κ:Type} {kf:PV->Option κ} {ρ ρ':List Addr} {H H':Hp} (p:ρ<+:ρ') (k:KeepW ρ ρ' H H'):∀ {xs:List (PV × PV)} {vs:List (κ × V)},GRep kf ρ H xs vs->GRep kf ρ' H' xs vs
 | [],_,h=>h
 | _ :: _,_,h=>let ⟨v,ws,l,e,r,t,q⟩:=h;⟨v,ws,l,e,r,Rep.monoW p k t,GRep.monoW p k q⟩
theorem FRep.monoW {ρ ρ':List Addr} {H H':Hp} (p:ρ<+:ρ') (k:KeepW ρ ρ' H H'):∀ {xs:List (Str × PV)} {vs:List (Str × V)},FRep ρ H xs vs->FRep ρ' H' xs vs
 | [],_,h=>h
 | _ :: _,_,h=>let ⟨v,l,e,t,q⟩:=h;⟨v,l,e,Rep.monoW p k t,FRep.monoW p k q⟩
theorem ORel.monoW {ρ ρ':List Addr} {H H':Hp} {a:Addr} {o:VO} (p:ρ<+:ρ') (k:KeepW ρ ρ' H H') (e:H' a=H a) (h:ORel ρ H a o):ORel ρ' H' a o:=by
 cases o with
 | lst xs=>obtain ⟨vs,z,r⟩:=h;exact ⟨vs,e.trans z,r.monoW p k⟩
 | scr ns=>obtain ⟨ob,z⟩:=h;exact ⟨ob,e.trans z⟩
 | dct kvs=>obtain ⟨l,z,r⟩:=h;exact ⟨l,e.trans z,r.monoW p k⟩
 | dtp kvs=>obtain ⟨l,z,r⟩:=h;exact ⟨l,e.trans z,r.monoW p k⟩
 | st xs=>obtain ⟨n,z⟩:=h;exact ⟨n,e.trans z⟩
 | dfz kvs=>obtain ⟨o,l,z,r⟩:=h;exact ⟨o,l,e.trans z,r.monoW p k⟩
 | ins C fs=>obtain ⟨dx,l,z,r⟩:=h;exact ⟨dx,l,e.trans z,r.monoW p k⟩
theorem Rep.mono {ρ ρ':List Addr} {H H':Hp} (p:ρ<+:ρ') (k:Keep ρ ρ' H H') {x:PV} {v:V} (h:Rep ρ H x v):Rep ρ' H' x v:=Rep.monoW p k.toKeepW h
theorem Reps.mono {ρ ρ':List Addr} {H H':Hp} (p:ρ<+:ρ') (k:Keep ρ ρ' H H') {xs:List PV} {vs:List V} (h:Reps ρ H xs vs):Reps ρ' H' xs vs:=Reps.monoW p k.toKeepW h
theorem GRep.mono {κ:Type} {kf:PV->Option κ} {ρ ρ':List Addr} {H H':Hp} (p:ρ<+:ρ') (k:Keep ρ ρ' H H') {xs:List (PV × PV)} {vs:List (κ × V)} (h:GRep kf ρ H xs vs):GRep kf ρ' H' xs vs:=GRep.monoW p k.toKeepW h
theorem FRep.mono {ρ ρ':List Addr} {H H':Hp} (p:ρ<+:ρ') (k:Keep ρ ρ' H H') {xs:List (Str × PV)} {vs:List (Str × V)} (h:FRep ρ H xs vs):FRep ρ' H' xs vs:=FRep.monoW p k.toKeepW h
theorem ORel.mono {ρ ρ':List Addr} {H H':Hp} {a:Addr} {o:VO} (p:ρ<+:ρ') (k:Keep ρ ρ' H H') (e:H' a=H a) (h:ORel ρ H a o):ORel ρ' H' a o:=h.monoW p k.toKeepW e
theorem ORel.some {ρ:List Addr} {H:Hp} {a:Addr} {o:VO} (h:ORel ρ H a o):∃ u,H a=Option.some u/\Cnt u:=by
 cases o with
 | lst xs=>obtain ⟨vs,z,r⟩:=h;exact ⟨_,z,trivial⟩
 | scr ns=>obtain ⟨ob,z⟩:=h;exact ⟨_,z,trivial⟩
 | dct kvs=>obtain ⟨l,z,r⟩:=h;exact ⟨_,z,trivial⟩
 | dtp kvs=>obtain ⟨l,z,r⟩:=h;exact ⟨_,z,trivial⟩
 | st xs=>obtain ⟨n,z⟩:=h;exact ⟨_,z,trivial⟩
 | dfz kvs=>obtain ⟨o,l,z,r⟩:=h;exact ⟨_,z,trivial⟩
 | ins C fs=>obtain ⟨dx,l,z,r⟩:=h;exact ⟨_,z,trivial⟩
theorem Sim.at {ρ:List Addr} {vh:VH} {H:Hp} (S:Sim tb ρ vh H) {i:Nat} {a:Addr} (h:ρ[i]?=Option.some a):∃ o,vh[i]?=Option.some o/\ORel ρ H a o:=by
 have hl:i < vh.length:=by rw [<- S.len];exact (List.getElem?_eq_some_iff.mp h).1
 exact ⟨vh[i],List.getElem?_eq_getElem hl,S.obj i a _ h (List.getElem?_eq_getElem hl)⟩
theorem Sim.some {ρ:List Addr} {vh:VH} {H:Hp} (S:Sim tb ρ vh H) {a:Addr} (h:a ∈ ρ):∃ u,H a=Option.some u/\Cnt u:=by
 obtain ⟨i,hi⟩:=List.getElem?_of_mem h
 obtain ⟨o,_,r⟩:=S.at hi
 exact r.some
theorem Keep.new {ρ:List Addr} {H:Hp} {p:Addr} {o:HO} (h:H p=none):Keep ρ ρ H (upd H p o) :=
 ⟨⟨fun a u i e=>by rw [upd_ne (ne_of_none e h)];exact e,fun a u c n e=>by rw [upd_ne (ne_of_none e h)];exact e,fun _ h n=>absurd h n⟩,fun a _ _ e=>by rw [upd_ne (ne_of_none e h)];exact e⟩
theorem Keep.push {ρ:List Addr} {H:Hp} {p:Addr} {o:HO} (h:H p=none):Keep ρ (ρ++[p]) H (upd H p o) :=
 ⟨⟨fun a u i e=>by rw [upd_ne (ne_of_none e h)];exact e,fun a u c n e=>by rw [upd_ne (ne_of_none e h)];exact e,fun q hq n u c e=>by
  rcases List.mem_append.mp hq with z | z
  ·exact n z
  ·simp at z;subst z;rw [h] at e;cases e⟩,fun a _ _ e=>by rw [upd_ne (ne_of_none e h)];exact e⟩
theorem KeepW.put {ρ:List Addr} {H:Hp} {p:Addr} {o u:HO} (h:H p=Option.some u) (n:Cnt u) (hp:p ∈ ρ):KeepW ρ ρ H (upd H p o) :=
 ⟨fun a v i e=>by rw [upd_ne (ne_of e h (n.no i))];exact e,fun a v c na e=>by rw [upd_ne (show a ≠ p from fun z=>na (by rw [z];exact hp))];exact e,fun _ h n=>absurd h n⟩
theorem Keep.put {ρ:List Addr} {H:Hp} {p:Addr} {o u:HO} (h:H p=Option.some u) (n:Cnt u) (hp:p ∈ ρ) (nf:∀ o' u',HO.frz o' u' ≠ u):Keep ρ ρ H (upd H p o) :=
 ⟨KeepW.put h n hp,fun a o' u' e=>by rw [upd_ne (ne_of e h (nf o' u'))];exact e⟩
theorem TabOk.new {H:Hp} {P:Addr} {q:Str} {p:Addr} {o:HO} (t:TabOk H P q) (h:H p=none):TabOk (upd H p o) P q:=by
 obtain ⟨ps,e,ok,k⟩:=t
 refine ⟨ps,by rw [upd_ne (ne_of_none e h)];exact e,ok,fun pos cv z=>?_⟩
 obtain ⟨c',φ,z1,z2,z3⟩:=k pos cv z
 exact ⟨c',φ,z1,by rw [upd_ne (ne_of_none z2 h)];exact z2,z3⟩
theorem TabOk.put {H:Hp} {P:Addr} {q:Str} {p:Addr} {o u:HO} (t:TabOk H P q) (h:H p=Option.some u) (n:Cnt u):TabOk (upd H p o) P q:=by
 obtain ⟨ps,e,ok,k⟩:=t
 refine ⟨ps,by rw [upd_ne (ne_of e h (fun z=>by rw [<- z] at n;exact n))];exact e,ok,fun pos cv z=>?_⟩
 obtain ⟨c',φ,z1,z2,z3⟩:=k pos cv z
 exact ⟨c',φ,z1,by rw [upd_ne (ne_of z2 h (fun z=>by rw [<- z] at n;exact n))];exact z2,z3⟩
theorem Sim.side {ρ:List Addr} {vh:VH} {H:Hp} (S:Sim tb ρ vh H) {p:Addr} {o:HO} (h:H p=none):Sim tb ρ vh (upd H p o) :=
 ⟨fun c P q m=>(S.tab c P q m).new h,S.nd,S.len,fun i a ob e1 e2=>(S.obj i a ob e1 e2).mono List.prefix_rfl (Keep.new h) (by
  obtain ⟨u,hu,_⟩:=S.some (List.mem_of_getElem? e1)
  rw [upd_ne (ne_of_none hu h)])⟩
theorem Sim.push {ρ:List Addr} {vh:VH} {H:Hp} (S:Sim tb ρ vh H) {p:Addr} {u:HO} {o:VO} (h:H p=none) (hr:ORel (ρ++[p]) (upd H p u) p o):Sim tb (ρ++[p]) (vh++[o]) (upd H p u):=by
 have np:p ∉ ρ:=fun z=>by obtain ⟨u,hu,_⟩:=S.some z;rw [h] at hu;cases hu
 refine ⟨fun c P q m=>(S.tab c P q m).new h,?_,by simp [S.len],fun i a ob e1 e2=>?_⟩
 ·rw [List.nodup_append];exact ⟨S.nd,by simp,fun a ha b hb=>by simp at hb;subst hb;intro z;subst z;exact np ha⟩
 ·by_cases hi:i < ρ.length
  ·rw [List.getElem?_append_left hi] at e1
   rw [List.getElem?_append_left (by rw [<- S.len];exact hi)] at e2
   refine (S.obj i a ob e1 e2).mono (List.prefix_append _ _) (Keep.push h) ?_
   obtain ⟨u,hu,_⟩:=S.some (List.mem_of_getElem? e1)
   rw [upd_ne (ne_of_none hu h)]
  ·have hz:i=ρ.length:=by
    have:=(List.getElem?_eq_some_iff.mp e1).1
    simp at this;omega
   subst hz
   simp at e1
   rw [S.len] at e2
   simp at e2
   subst e1;subst e2;exact hr
theorem Sim.set {ρ:List Addr} {vh:VH} {H:Hp} (S:Sim tb ρ vh H) {i:Nat} {p:Addr} {u:HO} {o:VO} (h:ρ[i]?=Option.some p) (hr:ORel ρ (upd H p u) p o):Sim tb ρ (vh.set i o) (upd H p u):=by
 obtain ⟨u0,h0,n0⟩:=S.some (List.mem_of_getElem? h)
 refine ⟨fun c P q m=>(S.tab c P q m).put h0 n0,S.nd,by simp [S.len],fun j a ob e1 e2=>?_⟩
 by_cases hj:j=i
 ·subst hj
  rw [h] at e1;cases e1
  have hl:j < vh.length:=by rw [<- S.len];exact (List.getElem?_eq_some_iff.mp h).1
  rw [List.getElem?_set_self hl] at e2
  cases e2
  exact hr
 ·rw [List.getElem?_set_ne (Ne.symm hj)] at e2
  refine (S.obj j a ob e1 e2).monoW List.prefix_rfl (KeepW.put h0 n0 (List.mem_of_getElem? h)) ?_
  have:a ≠ p:=fun z=>by
   subst z
   obtain ⟨h1,q1⟩:=List.getElem?_eq_some_iff.mp e1
   obtain ⟨h2,q2⟩:=List.getElem?_eq_some_iff.mp h
   exact hj ((List.getElem_inj S.nd).mp (q1.trans q2.symm))
  rw [upd_ne this]
theorem Keep.put' {ρ:List Addr} {vh:VH} {H:Hp} (S:Sim tb ρ vh H) {p:Addr} {o u:HO} (h:p ∈ ρ) (e:H p=some u) (nf:∀ o' u',HO.frz o' u' ≠ u:=by intro _ _ z;cases z):Keep ρ ρ H (upd H p o):=by
 obtain ⟨u0,h0,n0⟩:=S.some h
 have:u0=u:=by rw [e] at h0;cases h0;rfl
 subst this
 exact Keep.put h0 n0 h nf
def Hd (hv:Option Value) (H:Hp):Prop:=hv=none\/∃ e C dO,hv=some (.ref e)/\H e=some (.ext (ExcPhi e C dO))
theorem Hd.monoW {hv:Option Value} {ρ ρ':List Addr} {H H':Hp} (k:KeepW ρ ρ' H H') (h:Hd hv H):Hd hv H':=by
 rcases h with h | ⟨e,C,dO,h,q⟩
 ·exact .inl h
 ·exact .inr ⟨e,C,dO,h,k.imm _ _ trivial q⟩
theorem Hd.mono {hv:Option Value} {ρ ρ':List Addr} {H H':Hp} (k:Keep ρ ρ' H H') (h:Hd hv H):Hd hv H':=h.monoW k.toKeepW
structure StRel (hv:Option Value) (ρ:List Addr) (H:Hp) (τ:Tau) (σ:St):Prop where
 hd:Hd hv H
 len:τ.length=σ.length
 get:∀ (i:Nat) (x:PV),τ[i]?=Option.some (Option.some x)->∃ v,σ[i]?=Option.some (Option.some v)/\Rep ρ H x v
theorem StRel.monoW {hv:Option Value} {ρ ρ':List Addr} {H H':Hp} {τ:Tau} {σ:St} (p:ρ<+:ρ') (k:KeepW ρ ρ' H H') (h:StRel hv ρ H τ σ):StRel hv ρ' H' τ σ :=
 ⟨h.hd.monoW k,h.len,fun i x e=>let ⟨v,e1,r⟩:=h.get i x e;⟨v,e1,r.monoW p k⟩⟩
theorem StRel.mono {hv:Option Value} {ρ ρ':List Addr} {H H':Hp} {τ:Tau} {σ:St} (p:ρ<+:ρ') (k:Keep ρ ρ' H H') (h:StRel hv ρ H τ σ):StRel hv ρ' H' τ σ:=h.monoW p k.toKeepW
theorem StRel.set {hv:Option Value} {ρ:List Addr} {H:Hp} {τ:Tau} {σ:St} (h:StRel hv ρ H τ σ) {i:Nat} {x:PV} {v:V} (r:Rep ρ H x v):StRel hv ρ H (τ.set i (Option.some x)) (σ.set i (Option.some v)):=by
 refine ⟨h.hd,by simp [h.len],fun j y e=>?_⟩
 by_cases hj:j=i
 ·subst hj
  have hl:j < τ.length:=by
   have:=(List.getElem?_eq_some_iff.mp e).1;simpa using this
  rw [List.getElem?_set_self hl] at e
  cases e
  exact ⟨v,by rw [List.getElem?_set_self (by rw [<- h.len];exact hl)],r⟩
 ·rw [List.getElem?_set_ne (Ne.symm hj)] at e
  obtain ⟨w,e1,q⟩:=h.get j y e
  exact ⟨w,by rw [List.getElem?_set_ne (Ne.symm hj)];exact e1,q⟩
end FS
namespace FS
open PySem PySem.Spec PyProof.Rows L2 FX
def XF (ρ:List Addr) (H:Hp) (dO:Option Addr) (x:XV):Prop :=
 (dO=none/\x.ns=[]/\x.xs=[])\/∃ d vs,dO=some d/\H d=some (.xd (x.ns.zip vs))/\x.ns.length=x.xs.length/\Reps ρ H x.xs vs
structure ExcAt (X:Cx) (ρ:List Addr) (H:Hp) (e:Addr) (x:XV) (s:Shared):Prop where
 nb:X.base.get? e=none
 nH:H e=none
 n0:X.ex=[]->X.s₀.heap.get? e=none
 np:∀ p ∈ X.pn,p.1 ≠ e
 stage:∃ dO,XF ρ H dO x/\((∃ n,5 < n/\Fresh s.heap e (.ref x.cls) n dO)\/∃ T n,5 < n/\Fly s.heap e (.ref x.cls) n T .none dO/\X.base.get? T=none/\H T=none/\(X.ex=[]->X.s₀.heap.get? T=none)/\∀ p ∈ X.pn,p.1 ≠ T)
def XPost (tb:Tb) (X:Cx) (σ:St) (ρ:List Addr) (H:Hp) (x:XV) (vh:VH) (ev:Value) (s:Shared):Prop :=
 ∃ ρ' H' e,ρ<+:ρ'/\Keep ρ ρ' H H'/\Inv X [] σ H' s/\Sim tb ρ' vh H'/\ev=.ref e/\ExcAt X ρ' H' e x s
def Post (tb:Tb) (X:Cx) (σ:St) (ρ:List Addr) (H:Hp) (o:Out PV) (Q:VK):Prop :=
 match o with
 | .ok v vh=>∀ ρ' H' w,ρ<+:ρ'->Keep ρ ρ' H H'->Sim tb ρ' vh H'->Rep ρ' H' v w->Q w H'
 | .exc x vh=>∀ ev s,XPost tb X σ ρ H x vh ev s->X.xe ev s
 | .bad=>False
def PostT (tb:Tb) (X:Cx) (σ:St) (ρ:List Addr) (H:Hp) (o:Out Bool) (Q:Bool->Hp->Prop):Prop :=
 match o with
 | .ok b vh=>∀ ρ' H',ρ<+:ρ'->Keep ρ ρ' H H'->Sim tb ρ' vh H'->Q b H'
 | .exc x vh=>∀ ev s,XPost tb X σ ρ H x vh ev s->X.xe ev s
 | .bad=>False
def PostA (tb:Tb) (X:Cx) (σ:St) (ρ:List Addr) (H:Hp) (o:Out (List PV)) (Q:List V->Hp->Prop):Prop :=
 match o with
 | .ok vs vh=>∀ ρ' H' ws,ρ<+:ρ'->Keep ρ ρ' H H'->Sim tb ρ' vh H'->Reps ρ' H' vs ws->Q ws H'
 | .exc x vh=>∀ ev s,XPost tb X σ ρ H x vh ev s->X.xe ev s
 | .bad=>False
def PostS (tb:Tb) (X:Cx) (ρ:List Addr) (H:Hp) (f:Fl) (D:Ends):Prop :=
 match f with
 | .next τ vh=>∀ ρ' H' σ',ρ<+:ρ'->Keep ρ ρ' H H'->Sim tb ρ' vh H'->StRel X.A.handled ρ' H' τ σ'->D.nx σ' H'
 | .brk τ vh=>∀ ρ' H' σ',ρ<+:ρ'->Keep ρ ρ' H H'->Sim tb ρ' vh H'->StRel X.A.handled ρ' H' τ σ'->D.bk σ' H'
 | .cont τ vh=>∀ ρ' H' σ',ρ<+:ρ'->Keep ρ ρ' H H'->Sim tb ρ' vh H'->StRel X.A.handled ρ' H' τ σ'->D.ct σ' H'
 | .ret v vh=>∀ ρ' H' w,ρ<+:ρ'->Keep ρ ρ' H H'->Sim tb ρ' vh H'->Rep ρ' H' v w->D.rt w H'
 | .exc x vh=>∀ σ ev s,XPost tb X σ ρ H x vh ev s->X.xe ev s
 | .bad=>False
def tOf (tb:Tb) (X:Cx) (f:FE):TE:=fun σ H Q=>∃ ρ vh τ,StRel X.A.handled ρ H τ σ/\Sim tb ρ vh H/\Post tb X σ ρ H (f τ vh) Q
def tOfT (tb:Tb) (X:Cx) (f:FT):TT:=fun σ H Q=>∃ ρ vh τ,StRel X.A.handled ρ H τ σ/\Sim tb ρ vh H/\PostT tb X σ ρ H (f τ vh) Q
def tOfA (tb:Tb) (X:Cx) (f:FA):TA:=fun σ H Q=>∃ ρ vh τ,StRel X.A.handled ρ H τ σ/\Sim tb ρ vh H/\PostA tb X σ ρ H (f τ vh) Q
def tOfS (tb:Tb) (X:Cx) (f:FSt):TS:=fun D σ H=>∃ ρ vh τ,StRel X.A.handled ρ H τ σ/\Sim tb ρ vh H/\PostS tb X ρ H (f τ vh) D
def EOk (tb:Tb) (X:Cx) (e:Expr) (f:FE):Prop:=PE X e (tOf tb X f)
def TOk (tb:Tb) (X:Cx) (e:Expr) (f:FT):Prop:=PT X e (tOfT tb X f)
def AOk (tb:Tb) (X:Cx) (es:List Expr) (f:FA):Prop:=PA X es (tOfA tb X f)
def SOk (tb:Tb) (X:Cx) (st:Stmt) (f:FSt):Prop:=PS X st (tOfS tb X f)
def BOk (tb:Tb) (X:Cx) (st:List Stmt) (f:FSt):Prop:=PSs X st (tOfS tb X f)
theorem PE.mono {X:Cx} {e:Expr} {t t':TE} (h:PE X e t) (m:∀ σ H Q,t' σ H Q->t σ H Q):PE X e t':=fun pins s σ H Q I q=>h pins s σ H Q I (m _ _ _ q)
theorem PT.mono {X:Cx} {e:Expr} {t t':TT} (h:PT X e t) (m:∀ σ H Q,t' σ H Q->t σ H Q):PT X e t':=fun pins s σ H Q I q=>h pins s σ H Q I (m _ _ _ q)
theorem PA.mono {X:Cx} {e:List Expr} {t t':TA} (h:PA X e t) (m:∀ σ H Q,t' σ H Q->t σ H Q):PA X e t':=fun pos pins s σ H Q I q=>h pos pins s σ H Q I (m _ _ _ q)
theorem PS.mono {X:Cx} {e:Stmt} {t t':TS} (h:PS X e t) (m:∀ D σ H,t' D σ H->t D σ H):PS X e t':=fun pins s σ H Q I q=>h pins s σ H Q I (m _ _ _ q)
theorem PSs.mono {X:Cx} {e:List Stmt} {t t':TS} (h:PSs X e t) (m:∀ D σ H,t' D σ H->t D σ H):PSs X e t':=fun pins s σ H Q I q=>h pins s σ H Q I (m _ _ _ q)
section
variable {tb:Tb} {X:Cx} {σ:St} {ρ ρ':List Addr} {H H':Hp}
theorem XPost.back {x:XV} {vh:VH} {ev:Value} {s:Shared} (p:ρ<+:ρ') (k:Keep ρ ρ' H H') (h:XPost tb X σ ρ' H' x vh ev s):XPost tb X σ ρ H x vh ev s:=by
 obtain ⟨ρ2,H2,e,p2,k2,r⟩:=h
 exact ⟨ρ2,H2,e,p.trans p2,k.trans k2,r⟩
theorem Post.fwd {o:Out PV} {Q:VK} (p:ρ<+:ρ') (k:Keep ρ ρ' H H') (h:Post tb X σ ρ H o Q):Post tb X σ ρ' H' o Q:=by
 cases o with
 | ok v vh=>exact fun ρ2 H2 w p2 k2=>h ρ2 H2 w (p.trans p2) (k.trans k2)
 | exc x vh=>exact fun ev s q=>h ev s (q.back p k)
 | bad=>exact h
theorem PostT.fwd {o:Out Bool} {Q:Bool->Hp->Prop} (p:ρ<+:ρ') (k:Keep ρ ρ' H H') (h:PostT tb X σ ρ H o Q):PostT tb X σ ρ' H' o Q:=by
 cases o with
 | ok v vh=>exact fun ρ2 H2 p2 k2=>h ρ2 H2 (p.trans p2) (k.trans k2)
 | exc x vh=>exact fun ev s q=>h ev s (q.back p k)
 | bad=>exact h
theorem PostA.fwd {o:Out (List PV)} {Q:List V->Hp->Prop} (p:ρ<+:ρ') (k:Keep ρ ρ' H H') (h:PostA tb X σ ρ H o Q):PostA tb X σ ρ' H' o Q:=by
 cases o with
 | ok v vh=>exact fun ρ2 H2 w p2 k2=>h ρ2 H2 w (p.trans p2) (k.trans k2)
 | exc x vh=>exact fun ev s q=>h ev s (q.back p k)
 | bad=>exact h
theorem PostS.fwd {o:Fl} {D:Ends} (p:ρ<+:ρ') (k:Keep ρ ρ' H H') (h:PostS tb X ρ H o D):PostS tb X ρ' H' o D:=by
 cases o with
 | next τ vh=>exact fun ρ2 H2 w p2 k2=>h ρ2 H2 w (p.trans p2) (k.trans k2)
 | brk τ vh=>exact fun ρ2 H2 w p2 k2=>h ρ2 H2 w (p.trans p2) (k.trans k2)
 | cont τ vh=>exact fun ρ2 H2 w p2 k2=>h ρ2 H2 w (p.trans p2) (k.trans k2)
 | ret v vh=>exact fun ρ2 H2 w p2 k2=>h ρ2 H2 w (p.trans p2) (k.trans k2)
 | exc x vh=>exact fun σ ev s q=>h σ ev s (q.back p k)
 | bad=>exact h
theorem Post.here {v:PV} {vh:VH} {w:V} {Q:VK} (h:Post tb X σ ρ H (.ok v vh) Q) (S:Sim tb ρ vh H) (r:Rep ρ H v w):Q w H:=h ρ H w List.prefix_rfl Keep.refl S r
def M.then {α:Type} (m:M α) (k:α->VH->Fl):VH->Fl:=fun h=>match m h with
 | .ok a h'=>k a h'
 | .exc x h'=>.exc x h'
 | .bad=>.bad
theorem seqEE {vh:VH} {m:M (PV)} {k:PV->M (PV)} {Q:VK} {R:VK} (p:Post tb X σ ρ H (M.bind m k vh) Q)
  (hR:∀ vh' ρ' H' v w,ρ<+:ρ'->Keep ρ ρ' H H'->Sim tb ρ' vh' H'->Rep ρ' H' v w->Post tb X σ ρ' H' (k v vh') Q->R w H'):Post tb X σ ρ H (m vh) R:=by
 unfold M.bind at p
 cases e:m vh with
 | ok v vh1 =>
  rw [e] at p
  exact fun ρ' H' w p1 k1 S1 r1=>hR vh1 ρ' H' v w p1 k1 S1 r1 (Post.fwd p1 k1 p)
 | exc x vh1=>rw [e] at p;exact p
 | bad=>rw [e] at p;exact p
theorem seqET {vh:VH} {m:M (PV)} {k:PV->M (Bool)} {Q:Bool->Hp->Prop} {R:VK} (p:PostT tb X σ ρ H (M.bind m k vh) Q)
  (hR:∀ vh' ρ' H' v w,ρ<+:ρ'->Keep ρ ρ' H H'->Sim tb ρ' vh' H'->Rep ρ' H' v w->PostT tb X σ ρ' H' (k v vh') Q->R w H'):Post tb X σ ρ H (m vh) R:=by
 unfold M.bind at p
 cases e:m vh with
 | ok v vh1 =>
  rw [e] at p
  exact fun ρ' H' w p1 k1 S1 r1=>hR vh1 ρ' H' v w p1 k1 S1 r1 (PostT.fwd p1 k1 p)
 | exc x vh1=>rw [e] at p;exact p
 | bad=>rw [e] at p;exact p
theorem seqEA {vh:VH} {m:M (PV)} {k:PV->M (List PV)} {Q:List V->Hp->Prop} {R:VK} (p:PostA tb X σ ρ H (M.bind m k vh) Q)
  (hR:∀ vh' ρ' H' v w,ρ<+:ρ'->Keep ρ ρ' H H'->Sim tb ρ' vh' H'->Rep ρ' H' v w->PostA tb X σ ρ' H' (k v vh') Q->R w H'):Post tb X σ ρ H (m vh) R:=by
 unfold M.bind at p
 cases e:m vh with
 | ok v vh1 =>
  rw [e] at p
  exact fun ρ' H' w p1 k1 S1 r1=>hR vh1 ρ' H' v w p1 k1 S1 r1 (PostA.fwd p1 k1 p)
 | exc x vh1=>rw [e] at p;exact p
 | bad=>rw [e] at p;exact p
theorem seqES {vh:VH} {m:M (PV)} {k:PV->VH->Fl} {D:Ends} {R:VK} (p:PostS tb X ρ H (M.then m k vh) D)
  (hR:∀ vh' ρ' H' v w,ρ<+:ρ'->Keep ρ ρ' H H'->Sim tb ρ' vh' H'->Rep ρ' H' v w->PostS tb X ρ' H' (k v vh') D->R w H'):Post tb X σ ρ H (m vh) R:=by
 unfold M.then at p
 cases e:m vh with
 | ok v vh1 =>
  rw [e] at p
  exact fun ρ' H' w p1 k1 S1 r1=>hR vh1 ρ' H' v w p1 k1 S1 r1 (PostS.fwd p1 k1 p)
 | exc x vh1=>rw [e] at p;exact p σ
 | bad=>rw [e] at p;exact p
theorem seqTE {vh:VH} {m:M (Bool)} {k:Bool->M (PV)} {Q:VK} {R:Bool->Hp->Prop} (p:Post tb X σ ρ H (M.bind m k vh) Q)
  (hR:∀ vh' ρ' H' v,ρ<+:ρ'->Keep ρ ρ' H H'->Sim tb ρ' vh' H'->Post tb X σ ρ' H' (k v vh') Q->R v H'):PostT tb X σ ρ H (m vh) R:=by
 unfold M.bind at p
 cases e:m vh with
 | ok v vh1 =>
  rw [e] at p
  exact fun ρ' H' p1 k1 S1=>hR vh1 ρ' H' v p1 k1 S1 (Post.fwd p1 k1 p)
 | exc x vh1=>rw [e] at p;exact p
 | bad=>rw [e] at p;exact p
theorem seqTT {vh:VH} {m:M (Bool)} {k:Bool->M (Bool)} {Q:Bool->Hp->Prop} {R:Bool->Hp->Prop} (p:PostT tb X σ ρ H (M.bind m k vh) Q)
  (hR:∀ vh' ρ' H' v,ρ<+:ρ'->Keep ρ ρ' H H'->Sim tb ρ' vh' H'->PostT tb X σ ρ' H' (k v vh') Q->R v H'):PostT tb X σ ρ H (m vh) R:=by
 unfold M.bind at p
 cases e:m vh with
 | ok v vh1 =>
  rw [e] at p
  exact fun ρ' H' p1 k1 S1=>hR vh1 ρ' H' v p1 k1 S1 (PostT.fwd p1 k1 p)
 | exc x vh1=>rw [e] at p;exact p
 | bad=>rw [e] at p;exact p
theorem seqTS {vh:VH} {m:M (Bool)} {k:Bool->VH->Fl} {D:Ends} {R:Bool->Hp->Prop} (p:PostS tb X ρ H (M.then m k vh) D)
  (hR:∀ vh' ρ' H' v,ρ<+:ρ'->Keep ρ ρ' H H'->Sim tb ρ' vh' H'->PostS tb X ρ' H' (k v vh') D->R v H'):PostT tb X σ ρ H (m vh) R:=by
 unfold M.then at p
 cases e:m vh with
 | ok v vh1 =>
  rw [e] at p
  exact fun ρ' H' p1 k1 S1=>hR vh1 ρ' H' v p1 k1 S1 (PostS.fwd p1 k1 p)
 | exc x vh1=>rw [e] at p;exact p σ
 | bad=>rw [e] at p;exact p
theorem seqAE {vh:VH} {m:M (List PV)} {k:List PV->M (PV)} {Q:VK} {R:List V->Hp->Prop} (p:Post tb X σ ρ H (M.bind m k vh) Q)
  (hR:∀ vh' ρ' H' v w,ρ<+:ρ'->Keep ρ ρ' H H'->Sim tb ρ' vh' H'->Reps ρ' H' v w->Post tb X σ ρ' H' (k v vh') Q->R w H'):PostA tb X σ ρ H (m vh) R:=by
 unfold M.bind at p
 cases e:m vh with
 | ok v vh1 =>
  rw [e] at p
  exact fun ρ' H' w p1 k1 S1 r1=>hR vh1 ρ' H' v w p1 k1 S1 r1 (Post.fwd p1 k1 p)
 | exc x vh1=>rw [e] at p;exact p
 | bad=>rw [e] at p;exact p
theorem seqAA {vh:VH} {m:M (List PV)} {k:List PV->M (List PV)} {Q:List V->Hp->Prop} {R:List V->Hp->Prop} (p:PostA tb X σ ρ H (M.bind m k vh) Q)
  (hR:∀ vh' ρ' H' v w,ρ<+:ρ'->Keep ρ ρ' H H'->Sim tb ρ' vh' H'->Reps ρ' H' v w->PostA tb X σ ρ' H' (k v vh') Q->R w H'):PostA tb X σ ρ H (m vh) R:=by
 unfold M.bind at p
 cases e:m vh with
 | ok v vh1 =>
  rw [e] at p
  exact fun ρ' H' w p1 k1 S1 r1=>hR vh1 ρ' H' v w p1 k1 S1 r1 (PostA.fwd p1 k1 p)
 | exc x vh1=>rw [e] at p;exact p
 | bad=>rw [e] at p;exact p
theorem seqAS {vh:VH} {m:M (List PV)} {k:List PV->VH->Fl} {D:Ends} {R:List V->Hp->Prop} (p:PostS tb X ρ H (M.then m k vh) D)
  (hR:∀ vh' ρ' H' v w,ρ<+:ρ'->Keep ρ ρ' H H'->Sim tb ρ' vh' H'->Reps ρ' H' v w->PostS tb X ρ' H' (k v vh') D->R w H'):PostA tb X σ ρ H (m vh) R:=by
 unfold M.then at p
 cases e:m vh with
 | ok v vh1 =>
  rw [e] at p
  exact fun ρ' H' w p1 k1 S1 r1=>hR vh1 ρ' H' v w p1 k1 S1 r1 (PostS.fwd p1 k1 p)
 | exc x vh1=>rw [e] at p;exact p σ
 | bad=>rw [e] at p;exact p
end
section
variable {tb:Tb} {X:Cx} {pos:Pos}
def fVar (i:Nat):FE:=fun τ h=>match τ[i]? with
 | some (some v)=>.ok v h
 | _=>.bad
theorem e_var {i:Nat} {x:Str} (hN:X.N[i]?=some x) (hv:Vis X.env.scope x) (hd:(x == ("__debug__" : Str))=false:=by decide) (hcd:(x == ("__classdict__" : Str))=false:=by decide):EOk tb X (.Name x pos) (fVar i):=by
 refine PE.mono (pe_var hN hv hd hcd) fun σ H Q ⟨ρ,vh,τ,st,S,p⟩=>?_
 unfold fVar at p
 cases e:τ[i]? with
 | none=>rw [e] at p;exact p.elim
 | some o=>cases o with
  | none=>rw [e] at p;exact p.elim
  | some v =>
   rw [e] at p
   obtain ⟨w,e1,r⟩:=st.get i v e
   exact ⟨w,e1,Post.here p S r⟩
def fC (v:PV):FE:=fun _=>M.ret v
theorem e_int {i j}:EOk tb X (.Constant (.int i) j pos) (fC (.int i)):=PE.mono pe_int fun σ H Q ⟨ρ,vh,τ,st,S,p⟩=>Post.here p S rfl
theorem e_bl {i j}:EOk tb X (.Constant (.bool i) j pos) (fC (.bl i)):=PE.mono pe_bl fun σ H Q ⟨ρ,vh,τ,st,S,p⟩=>Post.here p S rfl
theorem e_non {j}:EOk tb X (.Constant .none j pos) (fC .non):=PE.mono pe_non fun σ H Q ⟨ρ,vh,τ,st,S,p⟩=>Post.here p S rfl
theorem e_str {x j}:EOk tb X (.Constant (.str x) j pos) (fC (.str x)):=PE.mono pe_str fun σ H Q ⟨ρ,vh,τ,st,S,p⟩=>Post.here p S rfl
theorem e_glob {x:Str} {v:PV} {w:V} {u:Value} (hg:Gl X x) (hm:X.mg x=some u) (r:RelV w u) (hr:∀ ρ H,Rep ρ H v w) (hd:(x == ("__debug__" : Str))=false:=by decide):EOk tb X (.Name x pos) (fC v) :=
 PE.mono (pe_glob hg hm r hd) fun σ H Q ⟨ρ,vh,τ,st,S,p⟩=>Post.here p S (hr ρ H)
theorem e_bltn {x:Str} {v:PV} {w:V} {u:Value} (hg:Gl X x) (hm:X.mg x=none) (hv:bootBuiltins x=some u) (r:RelV w u) (hr:∀ ρ H,Rep ρ H v w) (hn:x ≠ "__name__" := by decide) (hd:(x == ("__debug__" : Str))=false:=by decide):EOk tb X (.Name x pos) (fC v) :=
 PE.mono (pe_bltn hg hm hv r hn hd) fun σ H Q ⟨ρ,vh,τ,st,S,p⟩=>Post.here p S (hr ρ H)
end
section
variable {tb:Tb} {X:Cx} {pos:Pos} {a b c:Expr} {fa fb fc:FE}
abbrev G2:=PV->PV->M PV
abbrev G1:=PV->M PV
def fOp (g:G2) (fa fb:FE):FE:=fun τ=>M.bind (fa τ) fun x=>M.bind (fb τ) fun y=>g x y
def fUn (g:G1) (fa:FE):FE:=fun τ=>M.bind (fa τ) g
def Op2 (tb:Tb) (X:Cx) (r:R2) (g:G2):Prop:=∀ σ ρ vh H v1 v2 w1 w2 Q,Sim tb ρ vh H->Rep ρ H v1 w1->Rep ρ H v2 w2->Post tb X σ ρ H (g v1 v2 vh) Q->r w1 w2 H Q
theorem op_mono {r:R2} {g:G2} (h:Op2 tb X r g):∀ σ H Q,tOf tb X (fOp g fa fb) σ H Q->tOp r (tOf tb X fa) (tOf tb X fb) σ H Q:=fun σ H Q ⟨ρ,vh,τ,st,S,p⟩ =>
 ⟨ρ,vh,τ,st,S,seqEE p fun vh1 ρ1 H1 v1 w1 p1 k1 S1 r1 q1=>⟨ρ1,vh1,τ,st.mono p1 k1,S1,seqEE q1 fun vh2 ρ2 H2 v2 w2 p2 k2 S2 r2 q2=>h σ ρ2 vh2 H2 v1 v2 w1 w2 Q S2 (r1.mono p2 k2) r2 q2⟩⟩
theorem e_op {op:Operator} {r:R2} {g:G2} (ho:OpR X (binaryOp op) r) (h:Op2 tb X r g) (ha:EOk tb X a fa) (hb:EOk tb X b fb):EOk tb X (.BinOp a op b pos) (fOp g fa fb):=PE.mono (pe_op ho ha hb) (op_mono h)
theorem e_cmp {op:CmpOp} {r:R2} {g:G2} (ho:OpR X (compareOp op) r) (h:Op2 tb X r g) (ha:EOk tb X a fa) (hb:EOk tb X b fb) (hm:behindInMarks op b=false):EOk tb X (.Compare a [op] [b] pos) (fOp g fa fb):=PE.mono (pe_cmpR ho ha hb hm) (op_mono h)
def fB (fa:FE):FT:=fun τ=>M.bind (fa τ) fun x=>match x with
 | .bl k=>M.ret k
 | _=>M.bad
theorem PostT.here {σ:St} {ρ:List Addr} {H:Hp} {v:Bool} {vh:VH} {Q:Bool->Hp->Prop} (h:PostT tb X σ ρ H (.ok v vh) Q) (S:Sim tb ρ vh H):Q v H:=h ρ H List.prefix_rfl Keep.refl S
theorem tst_mono:∀ σ H Q,tOfT tb X (fB fa) σ H Q->tTest (tOf tb X fa) σ H Q:=fun σ H Q ⟨ρ,vh,τ,st,S,p⟩ =>
 ⟨ρ,vh,τ,st,S,seqET p fun vh1 ρ1 H1 v1 w1 p1 k1 S1 r1 q1=>by
  cases v1 with
  | bl k=>exact ⟨k,r1,PostT.here q1 S1⟩
  | _=>exact q1.elim⟩
theorem t_cmp {op:CmpOp} {r:R2} {g:G2} (ho:OpR X (compareOp op) r) (h:Op2 tb X r g) (ha:EOk tb X a fa) (hb:EOk tb X b fb) (hm:behindInMarks op b=false):TOk tb X (.Compare a [op] [b] pos) (fB (fOp g fa fb)) :=
 PT.mono (pt_cmpR ho ha hb hm) fun σ H Q q=>by
  obtain ⟨ρ,vh,τ,st,S,p⟩:=tst_mono σ H Q q
  exact op_mono h σ H _ ⟨ρ,vh,τ,st,S,p⟩
def gI (p:Int->Int->Bool):G2:=fun x y=>match x,y with | .int i,.int j=>M.ret (.bl (p i j)) | _,_=>M.bad
theorem o_I (q:Int->Int->Bool):Op2 tb X (rI0 fun i j=>.bl (q i j)) (gI q):=fun σ ρ vh H v1 v2 w1 w2 Q S r1 r2 p=>by
 cases v1 with
 | int i=>cases v2 with
  | int j=>exact ⟨i,j,r1,r2,Post.here p S rfl⟩
  | _=>exact p.elim
 | _=>exact p.elim
end
end FS
namespace FS
open PySem PySem.Spec PyProof.Rows L2 FX
section
variable {tb:Tb} {X:Cx} {pos:Pos} {a b c:Expr} {fa fb fc:FE} {ta tb':FT} {rest:List Expr}
def fAnd (fa fb:FE):FE:=fun τ=>M.bind (fa τ) fun x=>match x with
 | .bl true=>fb τ
 | .bl false=>M.ret (.bl false)
 | _=>M.bad
def fOr (fa fb:FE):FE:=fun τ=>M.bind (fa τ) fun x=>match x with
 | .bl true=>M.ret (.bl true)
 | .bl false=>fb τ
 | _=>M.bad
def fNot (fa:FE):FE:=fun τ=>M.bind (fa τ) fun x=>match x with
 | .bl c=>M.ret (.bl (!c))
 | _=>M.bad
theorem e_one {op} (h:EOk tb X a fa):EOk tb X (.BoolOp op [a] pos) fa:=pe_one h
theorem e_and (ha:EOk tb X a fa) (hb:EOk tb X (.BoolOp .And (b :: rest) pos) fb):EOk tb X (.BoolOp .And (a :: b :: rest) pos) (fAnd fa fb) :=
 PE.mono (pe_and ha hb) fun σ H Q ⟨ρ,vh,τ,st,S,p⟩=>⟨ρ,vh,τ,st,S,seqEE p fun vh1 ρ1 H1 v1 w1 p1 k1 S1 r1 q1=>by
  cases v1 with
  | bl c =>
   cases c with
   | true=>exact ⟨true,r1,iteT ⟨ρ1,vh1,τ,st.mono p1 k1,S1,q1⟩⟩
   | false=>exact ⟨false,r1,iteF (Post.here q1 S1 rfl)⟩
  | _=>exact q1.elim⟩
theorem e_or (ha:EOk tb X a fa) (hb:EOk tb X (.BoolOp .Or (b :: rest) pos) fb):EOk tb X (.BoolOp .Or (a :: b :: rest) pos) (fOr fa fb) :=
 PE.mono (pe_or ha hb) fun σ H Q ⟨ρ,vh,τ,st,S,p⟩=>⟨ρ,vh,τ,st,S,seqEE p fun vh1 ρ1 H1 v1 w1 p1 k1 S1 r1 q1=>by
  cases v1 with
  | bl c =>
   cases c with
   | true=>exact ⟨true,r1,iteT (Post.here q1 S1 rfl)⟩
   | false=>exact ⟨false,r1,iteF ⟨ρ1,vh1,τ,st.mono p1 k1,S1,q1⟩⟩
  | _=>exact q1.elim⟩
theorem e_not (ha:EOk tb X a fa):EOk tb X (.UnaryOp .Not a pos) (fNot fa) :=
 PE.mono (pe_not ha) fun σ H Q ⟨ρ,vh,τ,st,S,p⟩=>⟨ρ,vh,τ,st,S,seqEE p fun vh1 ρ1 H1 v1 w1 p1 k1 S1 r1 q1=>by
  cases v1 with
  | bl c=>exact ⟨c,r1,Post.here q1 S1 rfl⟩
  | _=>exact q1.elim⟩
theorem t_val (h:EOk tb X a fa) (he:∀ whole,isTrue a X.env whole=(do let v <- whole;standAt a.pos;holding [v] (truthy v)):=by intro _;rfl):TOk tb X a (fB fa) :=
 PT.mono (pt_val h he) fun σ H Q ⟨ρ,vh,τ,st,S,p⟩=>⟨ρ,vh,τ,st,S,seqET p fun vh1 ρ1 H1 v1 w1 p1 k1 S1 r1 q1=>by
  cases v1 with
  | bl k=>exact ⟨k,r1,PostT.here q1 S1⟩
  | _=>exact q1.elim⟩
def tNotF (t:FT):FT:=fun τ=>M.bind (t τ) fun k=>M.ret (!k)
def tAndF (t u:FT):FT:=fun τ=>M.bind (t τ) fun k=>if k=true then u τ else M.ret false
def tOrF (t u:FT):FT:=fun τ=>M.bind (t τ) fun k=>if k=true then M.ret true else u τ
def WOk (tb:Tb) (X:Cx) (e:Expr) (f:FT):Prop:=PW X e (tOfT tb X f)
theorem PW.mono {e:Expr} {t t':TT} (h:PW X e t) (m:∀ σ H Q,t' σ H Q->t σ H Q):PW X e t':=fun whole pins s σ H Q I q=>h whole pins s σ H Q I (m _ _ _ q)
theorem t_not (ha:TOk tb X a ta):TOk tb X (.UnaryOp .Not a pos) (tNotF ta) :=
 PT.mono (pt_not ha) fun σ H Q ⟨ρ,vh,τ,st,S,p⟩=>⟨ρ,vh,τ,st,S,seqTT p fun vh1 ρ1 H1 v1 p1 k1 S1 q1=>PostT.here q1 S1⟩
theorem w_and1 (ha:TOk tb X a ta):WOk tb X (.BoolOp .And [a] pos) ta:=pw_and1 ha
theorem w_or1 (ha:TOk tb X a ta):WOk tb X (.BoolOp .Or [a] pos) ta:=pw_or1 ha
theorem w_and (ha:TOk tb X a ta) (hb:WOk tb X (.BoolOp .And (b :: rest) pos) tb'):WOk tb X (.BoolOp .And (a :: b :: rest) pos) (tAndF ta tb') :=
 PW.mono (pw_and ha hb) fun σ H Q ⟨ρ,vh,τ,st,S,p⟩=>⟨ρ,vh,τ,st,S,seqTT p fun vh1 ρ1 H1 v1 p1 k1 S1 q1=>by
  cases v1 with
  | true=>exact iteT ⟨ρ1,vh1,τ,st.mono p1 k1,S1,q1⟩
  | false=>exact iteF (PostT.here q1 S1)⟩
theorem w_or (ha:TOk tb X a ta) (hb:WOk tb X (.BoolOp .Or (b :: rest) pos) tb'):WOk tb X (.BoolOp .Or (a :: b :: rest) pos) (tOrF ta tb') :=
 PW.mono (pw_or ha hb) fun σ H Q ⟨ρ,vh,τ,st,S,p⟩=>⟨ρ,vh,τ,st,S,seqTT p fun vh1 ρ1 H1 v1 p1 k1 S1 q1=>by
  cases v1 with
  | true=>exact iteT (PostT.here q1 S1)
  | false=>exact iteF ⟨ρ1,vh1,τ,st.mono p1 k1,S1,q1⟩⟩
theorem w_pt {e:Expr} (h:WOk tb X e ta):TOk tb X e ta:=PW.pt h
def fIf (t:FT) (fa fb:FE):FE:=fun τ=>M.bind (t τ) fun k=>if k=true then fa τ else fb τ
theorem e_ifExp (hc:TOk tb X c ta) (ha:EOk tb X a fa) (hb:EOk tb X b fb):EOk tb X (.IfExp c a b pos) (fIf ta fa fb) :=
 PE.mono (pe_ifExp hc ha hb) fun σ H Q ⟨ρ,vh,τ,st,S,p⟩=>⟨ρ,vh,τ,st,S,seqTE p fun vh1 ρ1 H1 v1 p1 k1 S1 q1=>by
  cases v1 with
  | true=>exact iteT ⟨ρ1,vh1,τ,st.mono p1 k1,S1,q1⟩
  | false=>exact iteF ⟨ρ1,vh1,τ,st.mono p1 k1,S1,q1⟩⟩
def fChain (g g':G2) (fa fb fc:FE):FE:=fun τ=>M.bind (fa τ) fun x=>M.bind (fb τ) fun y=>M.bind (g x y) fun z=>match z with
 | .bl true=>M.bind (fc τ) fun w=>g' y w
 | .bl false=>M.ret (.bl false)
 | _=>M.bad
end
section
variable {tb:Tb} {X:Cx} {pos:Pos} {e:Expr} {es:List Expr} {fe:FE} {fs:FA}
def aNil:FA:=fun _=>M.ret []
def aCons (fe:FE) (fs:FA):FA:=fun τ=>M.bind (fe τ) fun x=>M.bind (fs τ) fun xs=>M.ret (x :: xs)
theorem PostA.here {σ:St} {ρ:List Addr} {H:Hp} {v:List PV} {vh:VH} {w:List V} {Q:List V->Hp->Prop} (h:PostA tb X σ ρ H (.ok v vh) Q) (S:Sim tb ρ vh H) (r:Reps ρ H v w):Q w H:=h ρ H w List.prefix_rfl Keep.refl S r
theorem a_nil:AOk tb X [] aNil:=PA.mono pa_nil fun σ H Q ⟨ρ,vh,τ,st,S,p⟩=>PostA.here p S rfl
theorem a_cons (ha:EOk tb X e fe) (hr:AOk tb X es fs) (hs:starEach (e :: es) X.env=(false,eval e X.env) :: starEach es X.env:=by rfl):AOk tb X (e :: es) (aCons fe fs) :=
 PA.mono (pa_cons ha hr hs) fun σ H Q ⟨ρ,vh,τ,st,S,p⟩=>⟨ρ,vh,τ,st,S,seqEA p fun vh1 ρ1 H1 v1 w1 p1 k1 S1 r1 q1=>⟨ρ1,vh1,τ,st.mono p1 k1,S1,seqAA q1 fun vh2 ρ2 H2 v2 w2 p2 k2 S2 r2 q2=>PostA.here q2 S2 ⟨w1,w2,rfl,r1.mono p2 k2,r2⟩⟩⟩
theorem Reps.length {ρ:List Addr} {H:Hp}:∀ {xs:List PV} {vs:List V},Reps ρ H xs vs->vs.length=xs.length
 | [],_,h=>by rw [show _=[] from h];rfl
 | _ :: _,_,h=>by obtain ⟨v,ws,e,_,t⟩:=h;rw [e,List.length_cons,List.length_cons,Reps.length t]
def big:Nat:=1000000
def fTup (fs:FA):FE:=fun τ=>M.bind (fs τ) fun xs=>if xs.length<=big then M.ret (.tup xs) else M.bad
def alloc (o:VO):M PV:=fun h=>.ok (.ref h.length) (h++[o])
def fLst (fs:FA):FE:=fun τ=>M.bind (fs τ) fun xs=>if xs.length<=big then alloc (.lst xs) else M.bad
theorem big_le:big<=sizeLine:=by decide
theorem Post.tup {σ:St} {ρ:List Addr} {H:Hp} {xs:List PV} {vs:List V} {vh:VH} {Q:VK} (h:Post tb X σ ρ H (.ok (.tup xs) vh) Q) (S:Sim tb ρ vh H) (r:Reps ρ H xs vs) {p:Addr} (hp:H p=none):Q (.ref p) (upd H p (.tup vs)) :=
 h ρ _ _ List.prefix_rfl (Keep.new hp) (S.side hp) ⟨p,vs,rfl,upd_same,r.mono List.prefix_rfl (Keep.new hp)⟩
theorem Post.lst {σ:St} {ρ:List Addr} {H:Hp} {xs:List PV} {vs:List V} {vh:VH} {Q:VK} (h:Post tb X σ ρ H (alloc (.lst xs) vh) Q) (S:Sim tb ρ vh H) (r:Reps ρ H xs vs) {p:Addr} (hp:H p=none):Q (.ref p) (upd H p (.lst vs)):=by
 have kp:Keep ρ (ρ++[p]) H (upd H p (.lst vs)):=Keep.push hp
 have pf:ρ<+:ρ++[p]:=List.prefix_append _ _
 refine h (ρ++[p]) _ _ pf kp (S.push hp ⟨vs,upd_same,r.mono pf kp⟩) ⟨p,?_,rfl⟩
 show (ρ++[p])[vh.length]?=some p
 rw [<- S.len];simp
theorem e_tup {x1} (h:AOk tb X es fs):EOk tb X (.Tuple es x1 pos) (fTup fs) :=
 PE.mono (pe_tup h) fun σ H Q ⟨ρ,vh,τ,st,S,p⟩=>⟨ρ,vh,τ,st,S,seqAE p fun vh1 ρ1 H1 v1 w1 p1 k1 S1 r1 q1=>by
  by_cases hz:v1.length<=big
  ·rw [if_pos hz] at q1
   exact ⟨by rw [r1.length];exact Nat.le_trans hz big_le,fun p hp=>Post.tup q1 S1 r1 hp⟩
  ·rw [if_neg hz] at q1;exact q1.elim⟩
theorem e_lst (h:AOk tb X es fs):EOk tb X (.List es pos) (fLst fs) :=
 PE.mono (pe_lst h) fun σ H Q ⟨ρ,vh,τ,st,S,p⟩=>⟨ρ,vh,τ,st,S,seqAE p fun vh1 ρ1 H1 v1 w1 p1 k1 S1 r1 q1=>by
  by_cases hz:v1.length<=big
  ·rw [if_pos hz] at q1
   exact ⟨by rw [r1.length];exact Nat.le_trans hz big_le,fun p hp=>Post.lst q1 S1 r1 hp⟩
  ·rw [if_neg hz] at q1;exact q1.elim⟩
end
section
variable {tb:Tb} {X:Cx} {pos:Pos} {e:Expr} {fe:FE} {st:Stmt} {sts:List Stmt} {f g:FSt} {t:FT}
def sNext:FSt:=fun τ h=>.next τ h
def sSeq (f g:FSt):FSt:=fun τ h=>match f τ h with
 | .next τ' h'=>g τ' h'
 | r=>r
theorem PostS.next {ρ:List Addr} {H:Hp} {τ:Tau} {σ:St} {vh:VH} {D:Ends} (h:PostS tb X ρ H (.next τ vh) D) (S:Sim tb ρ vh H) (r:StRel X.A.handled ρ H τ σ):D.nx σ H:=h ρ H σ List.prefix_rfl Keep.refl S r
theorem b_nil:BOk tb X [] sNext:=PSs.mono pss_nil fun D σ H ⟨ρ,vh,τ,st,S,p⟩=>PostS.next p S st
theorem seq_mono:∀ D σ H,tOfS tb X (sSeq f g) D σ H->tSeq (tOfS tb X f) (tOfS tb X g) D σ H:=fun D σ H ⟨ρ,vh,τ,st,S,p⟩=>by
 refine ⟨ρ,vh,τ,st,S,?_⟩
 unfold sSeq at p
 cases e:f τ vh with
 | next τ1 vh1 =>
  rw [e] at p
  exact fun ρ' H' σ' p1 k1 S1 st1=>⟨ρ',vh1,τ1,st1,S1,PostS.fwd p1 k1 p⟩
 | brk τ1 vh1=>rw [e] at p;exact p
 | cont τ1 vh1=>rw [e] at p;exact p
 | ret v vh1=>rw [e] at p;exact p
 | exc x vh1=>rw [e] at p;exact p
 | bad=>rw [e] at p;exact p
theorem b_cons (h1:SOk tb X st f) (h2:BOk tb X sts g):BOk tb X (st :: sts) (sSeq f g):=PSs.mono (pss_cons h1 h2) seq_mono
theorem b_one (h1:SOk tb X st f):BOk tb X [st] f:=pss_one h1
def sRet (fe:FE):FSt:=fun τ=>M.then (fe τ) fun v h=>.ret v h
theorem s_ret (he:EOk tb X e fe):SOk tb X (.Return (some e) pos) (sRet fe) :=
 PS.mono (ps_ret he) fun D σ H ⟨ρ,vh,τ,st,S,p⟩=>⟨ρ,vh,τ,st,S,seqES (k:=fun v h=>.ret v h) p fun vh1 ρ1 H1 v1 w1 p1 k1 S1 r1 q1=>q1 ρ1 H1 w1 List.prefix_rfl Keep.refl S1 r1⟩
def sExpr (fe:FE):FSt:=fun τ=>M.then (fe τ) fun _ h=>.next τ h
theorem s_expr (he:EOk tb X e fe) (hs:swapsWith e none pos.line X.env=pure false:=by rfl):SOk tb X (.Expr e pos) (sExpr fe) :=
 PS.mono (ps_expr he hs) fun D σ H ⟨ρ,vh,τ,st,S,p⟩=>⟨ρ,vh,τ,st,S,seqES (k:=fun _ h=>.next τ h) p fun vh1 ρ1 H1 v1 w1 p1 k1 S1 r1 q1=>PostS.next q1 S1 (st.mono p1 k1)⟩
def sIf (t:FT) (f g:FSt):FSt:=fun τ=>M.then (t τ) fun k h=>if k=true then f τ h else g τ h
theorem s_if {c:Expr} {as bs:List Stmt} (hc:TOk tb X c t) (ha:BOk tb X as f) (hb:BOk tb X bs g):SOk tb X (.If c as bs pos) (sIf t f g) :=
 PS.mono (ps_if hc ha hb) fun D σ H ⟨ρ,vh,τ,st,S,p⟩=>⟨ρ,vh,τ,st,S,seqTS (k:=fun k h=>if k=true then f τ h else g τ h) p fun vh1 ρ1 H1 v1 p1 k1 S1 q1=>by
  cases v1 with
  | true=>exact iteT ⟨ρ1,vh1,τ,st.mono p1 k1,S1,q1⟩
  | false=>exact iteF ⟨ρ1,vh1,τ,st.mono p1 k1,S1,q1⟩⟩
abbrev FG:=PV->FSt
def tOfG (tb:Tb) (X:Cx) (g:FG):TG:=fun w σ H Q=>∃ ρ vh τ v,StRel X.A.handled ρ H τ σ/\Sim tb ρ vh H/\Rep ρ H v w/\match g v τ vh with
 | .next τ' vh'=>∀ ρ' H' σ',ρ<+:ρ'->Keep ρ ρ' H H'->Sim tb ρ' vh' H'->StRel X.A.handled ρ' H' τ' σ'->Q σ' H'
 | _=>False
def GOk (tb:Tb) (X:Cx) (tg:Expr) (g:FG):Prop:=PG X tg (tOfG tb X g)
theorem PG.mono {tg:Expr} {t t':TG} (h:PG X tg t) (m:∀ v σ H Q,t' v σ H Q->t v σ H Q):PG X tg t':=fun pins s σ H v u Q I r q=>h pins s σ H v u Q I r (m _ _ _ _ q)
def gN (i:Nat):FG:=fun v τ h=>.next (τ.set i (some v)) h
theorem g_name {i:Nat} {x:Str} (hN:X.N.Nodup) (hi:X.N[i]?=some x) (hx:Loc X.env.scope x) (hf:X.fn x=true\/X.env.scope.names.lookup x=some .local:=by first | exact .inl rfl | exact .inr rfl | assumption):GOk tb X (.Name x pos) (gN i) :=
 PG.mono (pg_name hN hi hx hf) fun w σ H Q ⟨ρ,vh,τ,v,st,S,r,p⟩=>p ρ H _ List.prefix_rfl Keep.refl S (st.set r)
def sAsg (fe:FE) (g:FG):FSt:=fun τ=>M.then (fe τ) fun v h=>match g v τ h with
 | .next τ' h'=>.next τ' h'
 | _=>.bad
theorem asg_mono {g:FG}:∀ D σ H,tOfS tb X (sAsg fe g) D σ H->tAsg (tOf tb X fe) (tOfG tb X g) D σ H:=fun D σ H ⟨ρ,vh,τ,st,S,p⟩ =>
 ⟨ρ,vh,τ,st,S,seqES (k:=fun v h=>match g v τ h with | .next τ' h'=>.next τ' h' | _=>.bad) p fun vh1 ρ1 H1 v1 w1 p1 k1 S1 r1 q1=>by
  refine ⟨ρ1,vh1,τ,v1,st.mono p1 k1,S1,r1,?_⟩
  cases e:g v1 τ vh1 with
  | next τ2 vh2=>rw [e] at q1;exact q1
  | brk _ _=>rw [e] at q1;exact q1.elim
  | cont _ _=>rw [e] at q1;exact q1.elim
  | ret _ _=>rw [e] at q1;exact q1.elim
  | exc _ _=>rw [e] at q1;exact q1.elim
  | bad=>rw [e] at q1;exact q1.elim⟩
theorem s_asg {tg:Expr} {g:FG} (he:EOk tb X e fe) (hg:GOk tb X tg g) (hs:swapsWithSole [tg] e pos.line X.env=pure false:=by rfl) (hw:swappedStores [tg] e X.env=pure none:=by rfl)
  (h1:(assignEach [tg] X.env).map (·.2)=[assign tg X.env]:=by rfl):SOk tb X (.Assign [tg] e pos) (sAsg fe g):=PS.mono (ps_asg he hg hs hw h1) asg_mono
def gsA:List FG->List PV->FSt
 | [],[],τ,h=>.next τ h
 | g :: gs,v :: vs,τ,h=>match g v τ h with
  | .next τ' h'=>gsA gs vs τ' h'
  | _=>.bad
 | _,_,_,_=>.bad
def tOfGs (tb:Tb) (X:Cx) (gs:List FG):TGs:=fun ws σ H Q=>∃ ρ vh τ vs,StRel X.A.handled ρ H τ σ/\Sim tb ρ vh H/\Reps ρ H vs ws/\match gsA gs vs τ vh with
 | .next τ' vh'=>∀ ρ' H' σ',ρ<+:ρ'->Keep ρ ρ' H H'->Sim tb ρ' vh' H'->StRel X.A.handled ρ' H' τ' σ'->Q σ' H'
 | _=>False
def GsOk (tb:Tb) (X:Cx) (tgs:List Expr) (gs:List FG):Prop:=PGs X tgs (tOfGs tb X gs)
theorem PGs.mono {tg:List Expr} {t t':TGs} (h:PGs X tg t) (m:∀ v σ H Q,t' v σ H Q->t v σ H Q):PGs X tg t':=fun pins s σ H v u Q I r q=>h pins s σ H v u Q I r (m _ _ _ _ q)
theorem gs_nil:GsOk tb X [] []:=PGs.mono pgs_nil fun ws σ H Q ⟨ρ,vh,τ,vs,st,S,r,p⟩=>by
 cases vs with
 | nil=>exact ⟨r,p ρ H σ List.prefix_rfl Keep.refl S st⟩
 | cons _ _=>exact p.elim
theorem gs_cons {tg:Expr} {tgs:List Expr} {g:FG} {gs:List FG} (h1:GOk tb X tg g) (h2:GsOk tb X tgs gs)
  (hs:(assignEach (tg :: tgs) X.env).map (·.2)=assign tg X.env :: (assignEach tgs X.env).map (·.2):=by rfl):GsOk tb X (tg :: tgs) (g :: gs) :=
 PGs.mono (pgs_cons h1 h2 hs) fun ws σ H Q ⟨ρ,vh,τ,vs,st,S,r,p⟩=>by
  cases vs with
  | nil=>exact p.elim
  | cons v vs =>
   obtain ⟨w,ws',e,r1,r2⟩:=r
   refine ⟨w,ws',e,ρ,vh,τ,v,st,S,r1,?_⟩
   unfold gsA at p
   cases e1:g v τ vh with
   | next τ1 vh1 =>
    rw [e1] at p
    refine fun ρ' H' σ' p1 k1 S1 st1=>⟨ρ',vh1,τ1,vs,st1,S1,r2.mono p1 k1,?_⟩
    dsimp only at p
    cases e2:gsA gs vs τ1 vh1 with
    | next τ2 vh2=>rw [e2] at p;exact fun ρ2 H2 σ2 p2 k2=>p ρ2 H2 σ2 (p1.trans p2) (k1.trans k2)
    | brk _ _=>rw [e2] at p;exact p.elim
    | cont _ _=>rw [e2] at p;exact p.elim
    | ret _ _=>rw [e2] at p;exact p.elim
    | exc _ _=>rw [e2] at p;exact p.elim
    | bad=>rw [e2] at p;exact p.elim
   | brk _ _=>rw [e1] at p;exact p.elim
   | cont _ _=>rw [e1] at p;exact p.elim
   | ret _ _=>rw [e1] at p;exact p.elim
   | exc _ _=>rw [e1] at p;exact p.elim
   | bad=>rw [e1] at p;exact p.elim
def gT (gs:List FG):FG:=fun v τ h=>match v with
 | .tup vs=>gsA gs vs τ h
 | _=>.bad
theorem gsA_len:∀ {gs:List FG} {vs:List PV} {τ τ':Tau} {h h':VH},gsA gs vs τ h=.next τ' h'->vs.length=gs.length
 | [],[],_,_,_,_,_=>rfl
 | [],_ :: _,_,_,_,_,e=>by simp [gsA] at e
 | _ :: _,[],_,_,_,_,e=>by simp [gsA] at e
 | g :: gs,v :: vs,τ,τ',h,h',e=>by
  unfold gsA at e
  cases e1:g v τ h with
  | next τ1 h1=>rw [e1] at e;dsimp only at e;rw [List.length_cons,List.length_cons,gsA_len e]
  | brk _ _=>rw [e1] at e;cases e
  | cont _ _=>rw [e1] at e;cases e
  | ret _ _=>rw [e1] at e;cases e
  | exc _ _=>rw [e1] at e;cases e
  | bad=>rw [e1] at e;cases e
theorem g_tup {tgs:List Expr} {k:Nat} {gs:List FG} (hc:X.calm=true) (h:GsOk tb X tgs gs) (hn:(assignEach tgs X.env).length=gs.length:=by rfl) (hst:(assignEach tgs X.env).findIdx? (·.1)=none:=by rfl):GOk tb X (.Tuple tgs k pos) (gT gs) :=
 PG.mono (pg_tup hc h hn hst) fun w σ H Q ⟨ρ,vh,τ,v,st,S,r,p⟩=>by
  cases v with
  | tup vs =>
   obtain ⟨a,ws,e,ha,r1⟩:=r
   have p':match gsA gs vs τ vh with
    | .next τ' vh'=>∀ ρ' H' σ',ρ<+:ρ'->Keep ρ ρ' H H'->Sim tb ρ' vh' H'->StRel X.A.handled ρ' H' τ' σ'->Q σ' H'
    | _=>False:=p
   refine ⟨a,ws,e,SqT.of ha,?_,ρ,vh,τ,vs,st,S,r1,p'⟩
   rw [r1.length]
   cases e2:gsA gs vs τ vh with
   | next τ2 vh2=>exact gsA_len e2
   | brk _ _=>rw [e2] at p';exact p'.elim
   | cont _ _=>rw [e2] at p';exact p'.elim
   | ret _ _=>rw [e2] at p';exact p'.elim
   | exc _ _=>rw [e2] at p';exact p'.elim
   | bad=>rw [e2] at p';exact p'.elim
  | _=>exact p.elim
end
end FS
namespace FS
open PySem PySem.Spec PyProof.Rows L2 FX
theorem HOk.tracked {P:Program} {w:World} {H:Hp} {h h':Heap} (x:HOk P w H h) (k:∀ c u v,H c=some u->h.get? c=some v->h'.get? c=some v):HOk P w H h':=fun a o e =>
 (x a o e).stay (fun b u hb q=>by
  rcases hb with rfl | hb
  ·exact k _ _ _ e q
  ·exact k _ _ _ hb q) (fun _ q=>q) fun _ _ q=>q
def CXF (P:Program) (w:World) (base:Heap):CXT:=fun outer H s E ev s'=>∃ e cls H' T n dO,ev=.ref e/\s'.os=s.os/\AllBare s'.gens/\Un (frs outer) [] H H' s.heap s'.heap/\HOk P w H' s'.heap /\
 base.get? e=none/\H' e=none/\s.heap.get? e=none/\base.get? T=none/\H' T=none/\s.heap.get? T=none/\5 < n/\Fly s'.heap e cls n T .none dO/\E cls dO H'
abbrev FF:=List PV->M PV
def spF (tb:Tb) (F:FF) (n:Nat):Sp:=fun vs H Q E=>∃ ρ vh xs,xs.length=n/\Reps ρ H xs vs/\Sim tb ρ vh H/\match F xs vh with
 | .ok v vh'=>∀ ρ' H' w,ρ<+:ρ'->Keep ρ ρ' H H'->Sim tb ρ' vh' H'->Rep ρ' H' v w->Q w H'
 | .exc x vh'=>∀ ρ' H' dO,ρ<+:ρ'->Keep ρ ρ' H H'->Sim tb ρ' vh' H'->XF ρ' H' dO x->E (.ref x.cls) dO H'
 | .bad=>False
def FnF (P:Program) (w:World) (K:PySem.W.Frag) (mg:Str->Option Value) (base:Heap) (tb:Tb) (k:Nat) (f:Addr) (fd:FuncData) (ps:List Str) (F:FF):Prop :=
 FnOk P w K mg base (CXF P w base) k f fd ps (spF tb F ps.length)
section
variable {tb:Tb} {X:Cx} {pos:Pos}
theorem Reps.vals {ρ:List Addr} {H:Hp}:∀ {xs:List PV} {vs:List V} {us:List Value},Reps ρ H xs vs->Vals vs us->us.length=xs.length:=fun r v=>by rw [<- v.length,r.length]
theorem run_F {k:Nat} {f:Addr} {fd:FuncData} {ps:List Str} {F:FF} {pins:List (Addr × Obj)} {σ:St} {ρ:List Addr} {vh:VH} {H:Hp} {s:Shared} {Q:VK} {xs:List PV} {vs:List V} {us:List Value} {args:Args}
  (Fn:FnF X.prog X.w X.K X.mg X.base tb k f fd ps F) (hr:Room k X.A) (hb:BindsTo s fd args (ps.zip us)) (hl:xs.length=ps.length)
  (I:Inv X pins σ H s) (S:Sim tb ρ vh H) (r:Reps ρ H xs vs) (rv:Vals vs us) (p:Post tb X σ ρ H (F xs vh) Q):codeAny (model X.prog X.w) X.A (.call (.ref f) args) (fun r s'=>match r with | .ok (.ret v)=>EP X pins σ Q v s' | .ok _=>False | .error e=>X.xe e s') s:=by
 refine codeAny_mono (Fn.run X.A X.stack s H args us vs Q (fun cls d H'=>∃ x vh' ρ',F xs vh=.exc x vh'/\cls=.ref x.cls/\ρ<+:ρ'/\Keep ρ ρ' H H'/\Sim tb ρ' vh' H'/\XF ρ' H' d x) hr I.env0 hb rv ⟨ρ,vh,xs,hl,r,S,?_⟩) fun res s' hq=>?_
 ·cases e:F xs vh with
  | ok v vh1=>rw [e] at p;exact p
  | exc x vh1=>exact fun ρ' H' dO p1 k1 S1 f1=>⟨x,vh1,ρ',rfl,rfl,p1,k1,S1,f1⟩
  | bad=>rw [e] at p;exact p
 ·cases res with
  | ok fl =>
   cases fl with
   | ret u=>exact I.after hq
   | next=>exact False.elim hq
   | brk=>exact False.elim hq
   | cont=>exact False.elim hq
  | error ev =>
   obtain ⟨e,cls,H',T,n,dO,rfl,os,bare,un,hok,nb,nH,ns,nbT,nHT,nsT,hn,fly,x,vh1,ρ',ex,rfl,p1,k1,S1,f1⟩:=hq
   rw [ex] at p
   refine p _ s' ⟨ρ',H',e,p1,k1,(I.call' (ch:=[]) os un hok bare fun b z=>absurd z (by simp)).pins_of (fun q hq=>absurd hq (by simp)),S1,rfl,⟨nb,nH,fun hx=>?_,fun q hq z=>?_,dO,f1,.inr ⟨T,n,hn,fly,nbT,nHT,fun hx=>?_,fun q hq z=>?_⟩⟩⟩
   ·cases z:X.s₀.heap.get? e with
    | none=>rfl
    | some o=>obtain ⟨o',q⟩:=I.base.there e o z (by rw [hx];simp);rw [ns] at q;cases q
   ·have:=(I.pin q (List.mem_append_left _ hq)).1
    rw [z,ns] at this;cases this
   ·cases z:X.s₀.heap.get? T with
    | none=>rfl
    | some o=>obtain ⟨o',q⟩:=I.base.there T o z (by rw [hx];simp);rw [nsT] at q;cases q
   ·have:=(I.pin q (List.mem_append_left _ hq)).1
    rw [z,nsT] at this;cases this
def fCall (F:FF) (n:Nat) (fs:FA):FE:=fun τ=>M.bind (fs τ) fun xs=>if xs.length=n then F xs else M.bad
end
end FS
namespace FS
open PySem PySem.Spec PyProof.Rows L2 FX
section
variable {tb:Tb} {X:Cx} {pos p:Pos} {x:Str} {e:Expr} {es:List Expr} {fs:FA} {k:Nat} {f:Addr} {fd:FuncData} {ps:List Str} {F:FF}
theorem e_call (Fn:FnF X.prog X.w X.K X.mg X.base tb k f fd ps F) (hr:Room k X.A) (hg:Gl X x) (hm:X.mg x=some (.ref f)) (hk:PySem.W.keepIn X.K (.ref f)=true) (hb:Binds X.K fd ps [])
  (ha:AOk tb X (e :: es) fs) (hdb:(x == ("__debug__" : Str))=false:=by decide) (he:starEach (e :: es) X.env=(false,eval e X.env) :: starEach es X.env:=by rfl) (hpl:(backTo pos (starEach es X.env)).any (·.1)=false:=by rfl) :
  EOk tb X (.Call (.Name x p) (e :: es) [] pos) (fCall F ps.length fs):=by
 intro pins s σ H Q I ⟨ρ,vh,τ,st,S,p⟩
 refine wpAny_Call_Name_kw (ld_glob I hg hm ?_ hdb)
 refine PySem.W.callWith_K (h₀:=X.base) I.ok.mod.kin hk (thn (ha pos pins s σ H (fun ws H1=>∃ ρ1 vh1 xs,xs.length=ps.length/\Sim tb ρ1 vh1 H1/\Reps ρ1 H1 xs ws/\Post tb X σ ρ1 H1 (F xs vh1) Q) I ⟨ρ,vh,τ,st,S,seqAE p fun vh1 ρ1 H1 v1 w1 p1 k1 S1 r1 q1=>?_⟩) fun us s1 ⟨vs,H1,I1,r,q⟩=>⟨I1.kIn,?_⟩) he hpl
 ·by_cases hl:v1.length=ps.length
  ·rw [if_pos hl] at q1;exact ⟨ρ1,vh1,v1,hl,S1,r1,q1⟩
  ·rw [if_neg hl] at q1;exact q1.elim
 ·obtain ⟨ρ1,vh1,xs,hl,S1,r1,q1⟩:=q
  have hz:(us++[]).length=ps.length:=by rw [List.append_nil,<- r.length,r1.length,hl]
  have hbb:=hb s1 us I1.kIn hz
  rw [List.append_nil] at hbb
  exact wpAny_call (run_F Fn hr hbb hl I1 S1 r1 r q1)
end
def startT (N:List Str) (xs:List PV):Tau:=xs.map some++List.replicate (N.length - xs.length) none
def runB (g:FSt) (τ:Tau):M PV:=fun h=>match g τ h with
 | .next _ h'=>.ok .non h'
 | .ret v h'=>.ok v h'
 | .exc x h'=>.exc x h'
 | _=>.bad
theorem Reps.get {ρ:List Addr} {H:Hp}:∀ {xs:List PV} {vs:List V} {i:Nat} {x:PV},Reps ρ H xs vs->xs[i]?=some x->∃ v,vs[i]?=some v/\Rep ρ H x v
 | [],_,_,_,_,e=>by simp at e
 | _ :: _,_,0,_,r,e=>by obtain ⟨v,ws,rfl,r1,_⟩:=r;simp at e;subst e;exact ⟨v,rfl,r1⟩
 | _ :: _,_,i + 1,x,r,e=>by obtain ⟨v,ws,rfl,_,r2⟩:=r;simp at e;obtain ⟨w,h1,h2⟩:=Reps.get r2 e;exact ⟨w,by simpa using h1,h2⟩
theorem start_rel {hv:Option Value} {ρ:List Addr} {H:Hp} {N:List Str} {xs:List PV} {vs:List V} (hd:Hd hv H) (r:Reps ρ H xs vs):StRel hv ρ H (startT N xs) (start N vs):=by
 have hl:=r.length
 refine ⟨hd,by simp [startT,L2.start,hl],fun i x e=>?_⟩
 unfold startT at e
 by_cases hi:i < xs.length
 ·rw [List.getElem?_append_left (by simpa using hi),List.getElem?_map] at e
  cases e1:xs[i]? with
  | none=>rw [e1] at e;cases e
  | some y =>
   rw [e1] at e
   have e2:y=x:=by simpa using e
   subst e2
   obtain ⟨v,h1,h2⟩:=r.get e1
   refine ⟨v,?_,h2⟩
   unfold L2.start
   rw [List.getElem?_append_left (by simpa [hl] using hi),List.getElem?_map,h1];rfl
 ·rw [List.getElem?_append_right (by simpa using hi),List.getElem?_replicate] at e
  split at e <;> cases e
section
variable {tb:Tb} {P:Program} {w:World} {K:PySem.W.Frag} {mg:Str->Option Value} {base:Heap}
theorem leave_F {N : List Str} {qual : Str} {scope : Scope} {f : Addr} {cd : Value} {A : Around} {outer : List Env} {s : Shared} {H H0 : Hp} {E : XK} {σ : St} {ρ : List Addr} {x : XV} {vh : VH} {ev : Value} {s' : Shared}
    (hE : ∀ ρ' H' dO, ρ<+:ρ'->Keep ρ ρ' H0 H'->Sim tb ρ' vh H'->XF ρ' H' dO x->E (.ref x.cls) dO H')
    (q : XPost tb (cxOf (CXF P w base) P w K mg base N qual scope f cd A outer s H E) σ ρ H0 x vh ev s') : (cxOf (CXF P w base) P w K mg base N qual scope f cd A outer s H E).xe ev s' := by
  obtain ⟨ρ', H', e, p1, k1, I, S1, rfl, xe⟩ := q
  obtain ⟨dO, f1, stage⟩ := xe.stage
  have hfr : (A.deeper (envOfC qual scope s.heap.objs.size f cd)).frames = some (envOfC qual scope s.heap.objs.size f cd :: outer) := I.ok.frames
  have hl : s'.heap.FunFrames base (envOfC qual scope s.heap.objs.size f cd :: outer) := I.stack
  have n0 : s.heap.get? e = none := xe.n0 rfl
  have fin : ∀ {h1 h2 : Heap} {T T' : Addr} {Told : Option Addr} {n : Nat}, Gone ((envOfC qual scope s.heap.objs.size f cd :: outer).filterMap (·.frame)) e Told s'.heap h1->s'.heap.get? T' = none->(∀ t, Told = some t->H' t = none/\s.heap.get? t = none/\∃ ot ts, s'.heap.get? t = some ot/\ot.data = .fields ts) ->
      (∀ b o, b ≠ T'->h1.get? b = some o->h2.get? b = some o)->(∃ o', h2.get? T' = some o')->5 < n->Fly h2 e (.ref x.cls) n T' .none dO->CXF P w base outer H s E (.ref e) { s' with heap := h2 } := by
    intro h1 h2 T T' Told n g newT hT kp thT hn fly
    have nT' : ∀ b o, s'.heap.get? b = some o->b ≠ T' := fun b o q z => by rw [z, newT] at q; cases q
    have frT : ∀ {b u}, H' b = some u->b ∉ (envOfC qual scope s.heap.objs.size f cd :: outer).filterMap (·.frame) := fun {b u} hu hb => by
      have := I.stkFree b hb; rw [hu] at this; cases this
    have sT' : s.heap.get? T' = none := by
      cases z : s.heap.get? T' with
      | none => rfl
      | some o => obtain ⟨o', q⟩ := I.base.there T' o z (by simp [cxOf]); rw [newT] at q; cases q
    refine ⟨e, _, H', T', n, dO, rfl, I.os, I.bare, ⟨fun b o q hn hb hx => ?_, fun b o q hn hb hx => ?_, fun b o q hn hx => I.base.free b o q hn (by simp [cxOf]), fun b o q hx => ?_, I.base.tups, I.base.frzs, I.base.tbls⟩, ?_, xe.nb, xe.nH, n0, ?_, ?_, sT', hn, fly, hE ρ' H' dO p1 k1 S1 f1⟩
    · have q1 := I.base.keep b o q hn hb (by simp [cxOf])
      refine kp b o (nT' b o q1) (g.keep b o (fun z => by rw [z, n0] at q; cases q) (fun z => by rw [(hT b z).2.1] at q; cases q) (fun z => ?_) q1)
      rcases List.mem_cons.mp (I.stkSub b z) with z | z
      · exact absurd (Nat.lt_of_lt_of_le (Heap.lt_size q) (by rw [z]; exact I.ok.above)) (Nat.lt_irrefl _)
      · exact hb z
    · obtain ⟨sl, q1⟩ := I.base.slot b o q hn hb (by simp [cxOf])
      obtain ⟨sl2, q2⟩ := g.slot b _ (fun z => by rw [z, n0] at q; cases q) (fun z => by rw [(hT b z).2.1] at q; cases q) q1
      exact ⟨sl2, kp b _ (nT' b _ q1) q2⟩
    · obtain ⟨o1, q1⟩ := I.base.there b o q (by simp [cxOf])
      obtain ⟨o2, q2⟩ := g.there b o1 q1
      exact ⟨o2, kp b o2 (nT' b o1 q1) q2⟩
    · refine HOk.tracked I.hok fun c u v hc q => kp c v (nT' c v q) (g.keep c v (fun z => by rw [z, xe.nH] at hc; cases hc) (fun z => by rw [(hT c z).1] at hc; cases hc) (frT hc) q)
    · cases z : base.get? T' with
      | none => rfl
      | some o => have := I.bk T' o z; rw [newT] at this; cases this
    · cases z : H' T' with
      | none => rfl
      | some u => have := (I.hok T' u z).lt; obtain ⟨o, q⟩ : ∃ o, s'.heap.get? T' = some o := by
                    have ok := I.hok T' u z
                    cases u with
                    | lst xs => obtain ⟨_, _, _, _, e⟩ := ok; exact ⟨_, e⟩
                    | tup xs => obtain ⟨_, _, _, o, e, _⟩ := ok; exact ⟨_, e⟩
                    | dK kvs => obtain ⟨_, _, _, _, o, _, _, e, _⟩ := ok; exact ⟨_, e⟩
                    | dT kvs => obtain ⟨_, _, _, _, o, _, _, e, _⟩ := ok; exact ⟨_, e⟩
                    | set S n => obtain ⟨o, _, _, _, e, _⟩ := ok; exact ⟨_, e⟩
                    | ins C dx fs => obtain ⟨_, _, _, e, _⟩ := ok; exact ⟨_, e⟩
                    | own y => obtain ⟨_, e⟩ := ok; exact ⟨_, e⟩
                    | xd fs => obtain ⟨_, ⟨_, _, _, e, _⟩, _⟩ := ok; exact ⟨_, e⟩
                    | rng lo hi => obtain ⟨_, _, _, e⟩ := ok; exact ⟨_, e⟩
                    | frz ob u => obtain ⟨e, _⟩ := ok; exact ⟨_, e⟩
                    | tbl ps => exact ⟨_, ok⟩
                    | met f y => exact ⟨_, ok⟩
                    | ext φ => obtain ⟨_, ⟨_, e⟩, _⟩ := ok; exact ⟨_, e⟩
                  rw [newT] at q; cases q
  show wpAny (model P w) (A.deeper (envOfC qual scope s.heap.objs.size f cd)) (leaving (envOfC qual scope s.heap.objs.size f cd) (.ref e)) _ _ s'
  unfold leaving
  rcases stage with ⟨n, hn, fr⟩ | ⟨T, n, hn, fl, nbT, nHT, n0T, npT⟩
  · refine wpAny_bind (note_fresh (by omega) hfr hl rfl fr fun h1 T' g newT fly => flight_none fly fun h2 kp thT _ fly2 => ?_)
    exact fin (T := T') g newT (fun t z => nomatch z) kp thT hn fly2
  · refine wpAny_bind (note_fly (by omega) hfr hl rfl fl fun h1 T' g newT fly => flight_none fly fun h2 kp thT _ fly2 => ?_)
    refine fin (T := T') g newT (fun t z => ?_) kp thT hn fly2
    cases z
    obtain ⟨_, _, oT, ts, _, _, _, _, _, _, _, gT, dT, _⟩ := fl
    exact ⟨nHT, n0T rfl, oT, ts, gT, dT⟩
theorem fn_F {k:Nat} {f:Addr} {name qual:Str} {params:Arguments} {body:List Stmt} {scope:Scope} {dV kV doc pm cdv ct oc:Value} {an od:Option Addr} {osl:Array (Option Value)} {N ps:List Str} {F:FF} {g:FSt}
  (lk:K.lookup f=some ⟨oc,od,.func (PySem.W.fnOf name qual params body scope dV kV doc pm an cdv ct),osl⟩) (hcd:PySem.W.codeIn K cdv qual=true) (S:FnScope N ps scope)
  (hbody:∀ (A:Around) (outer:List Env) (s:Shared) (H:Hp) (E:XK),Room k (A.deeper (envOfC qual scope s.heap.objs.size f cdv))->BOk tb (cxOf (CXF P w base) P w K mg base N qual scope f cdv A outer s H E) body g)
  (hF:∀ xs vh,xs.length=ps.length->runB g (startT N xs) vh=F xs vh):FnF P w K mg base tb (k + 1) f (PySem.W.fnOf name qual params body scope dV kV doc pm an cdv ct) ps F:=by
 refine fn_of lk hcd S (fun vs H Q E ⟨ρ,vh,xs,hl,r,_⟩=>by rw [r.length,hl]) fun A outer s H vs Q E hr ⟨ρ,vh,xs,hl,r,Sm,hq⟩=>?_
 refine ⟨_,hbody A outer s H E hr,ρ,vh,startT N xs,start_rel (.inl hr.hd) r,Sm,?_⟩
 have e:=hF xs vh hl
 rw [<- e] at hq
 unfold runB at hq
 cases eg:g (startT N xs) vh with
 | next τ vh1=>rw [eg] at hq;exact fun ρ' H' σ' p1 k1 S1 _=>hq ρ' H' .non p1 k1 S1 rfl
 | brk τ vh1=>rw [eg] at hq;exact hq.elim
 | cont τ vh1=>rw [eg] at hq;exact hq.elim
 | ret v vh1=>rw [eg] at hq;exact hq
 | exc x vh1=>rw [eg] at hq;exact fun σ ev s' q=>leave_F hq q
 | bad=>rw [eg] at hq;exact hq.elim
end
end FS
namespace FS
open PySem PySem.Spec PyProof.Rows L2 FX
open PySem.SeqAt
def fl:PV->Bool
 | .non=>true | .bl _=>true | .int _=>true | .str _=>true | _=>false
def feq:PV->PV->Bool
 | .non,.non=>true
 | .bl a,.bl b=>a == b
 | .bl a,.int b=>(if a then 1 else 0) == b
 | .int a,.bl b=>a == (if b then 1 else 0)
 | .int a,.int b=>a == b
 | .str a,.str b=>a == b
 | _,_=>false
def lsOf (h:VH) (i:Nat):Option (List PV):=match h[i]? with
 | some (.lst xs)=>some xs
 | some (.scr ns)=>some (ns.map PV.int)
 | _=>none
inductive Kd where
 | flat | tp (xs:List PV) | ls (xs:List PV)
def kd (h:VH) (x:PV):Option Kd:=match x with
 | .non=>some .flat
 | .bl _=>some .flat
 | .int _=>some .flat
 | .str _=>some .flat
 | .tup xs=>some (.tp xs)
 | .ref i=>match lsOf h i with
  | some xs=>some (.ls xs)
  | none=>none
 | _=>none
mutual
def eqF (h:VH):Nat->PV->PV->Option Bool
 | 0,_,_=>none
 | n + 1,x,y=>match kd h x,kd h y with
  | some .flat,some .flat=>some (feq x y)
  | some (.tp xs),some (.tp ys)=>match eqsF h n xs ys with
   | some b=>some (b && (xs.length == ys.length))
   | none=>none
  | some (.ls xs),some (.ls ys)=>if xs.length=ys.length then eqsF h n xs ys else some false
  | some _,some _=>some false
  | _,_=>none
def eqsF (h:VH):Nat->List PV->List PV->Option Bool
 | 0,_,_=>none
 | _ + 1,[],_=>some true
 | _ + 1,_ :: _,[]=>some true
 | n + 1,x :: xs,y :: ys=>match eqF h n x y,eqsF h n xs ys with
  | some a,some b=>some (a && b)
  | _,_=>none
end
section
variable {A:Around} {s:Shared} {ρ:List Addr} {H:Hp}
theorem fl_V {x:PV} {v:V} (r:Rep ρ H x v) (f:fl x=true):flatV v=true:=by
 cases x <;> first | (cases r;rfl) | exact absurd f Bool.false_ne_true
theorem feq_V {x y:PV} {v w:V} (r:Rep ρ H x v) (q:Rep ρ H y w) (f:fl x=true) (g:fl y=true):eqV v w=feq x y:=by
 cases x <;> first | exact absurd f Bool.false_ne_true | (cases y <;> first | exact absurd g Bool.false_ne_true | (cases r;cases q;rfl))
theorem feq_same {x y:PV} {v:V} (r:Rep ρ H x v) (q:Rep ρ H y v) (f:fl x=true) (g:fl y=true):feq x y=true:=by
 cases x <;> first | exact absurd f Bool.false_ne_true | (cases y <;> first | exact absurd g Bool.false_ne_true | (cases r;cases q;simp [feq]) | (cases r;exact nomatch q))
structure Eqs (A:Around) (s:Shared) (u z:Value) (b:Bool):Prop where
 at_:EqAt A s u z b
 rc:RcAt A s u z b
 ne:RcNeAt A s u z (!b)
theorem eqs_flat {x y:PV} {v w:V} {u z:Value} (r:Rep ρ H x v) (q:Rep ρ H y w) (f:fl x=true) (g:fl y=true) (rv:RelV v u) (rw':RelV w z):Eqs A s u z (feq x y):=by
 have ea:EqAt A s u z (feq x y):=by
  have e:=eqAt_V (A:=A) (s:=s) rv rw' (fl_V r f) (fl_V q g)
  rw [feq_V r q f g] at e;exact e
 cases x with
 | non  =>
  cases r;cases rv
  cases y with
  | non =>cases q;cases rw';exact ⟨ea,RcAt.none_none ,RcNeAt.none_none ⟩
  | bl b=>cases q;cases rw';exact ⟨ea,RcAt.none_bool b,RcNeAt.none_bool b⟩
  | int b=>cases q;obtain ⟨t,rfl⟩:=rw';exact ⟨ea,RcAt.none_int b t,RcNeAt.none_int b t⟩
  | str b=>cases q;obtain ⟨t,rfl⟩:=rw';exact ⟨ea,RcAt.none_str b t,RcNeAt.none_str b t⟩
  | _=>exact absurd g Bool.false_ne_true
 | bl a =>
  cases r;cases rv
  cases y with
  | non =>cases q;cases rw';exact ⟨ea,RcAt.bool_none a,RcNeAt.bool_none a⟩
  | bl b=>cases q;cases rw';exact ⟨ea,RcAt.bool_bool a b,RcNeAt.bool_bool a b⟩
  | int b=>cases q;obtain ⟨t,rfl⟩:=rw';exact ⟨ea,RcAt.bool_int a b t,RcNeAt.bool_int a b t⟩
  | str b=>cases q;obtain ⟨t,rfl⟩:=rw';exact ⟨ea,RcAt.bool_str a b t,RcNeAt.bool_str a b t⟩
  | _=>exact absurd g Bool.false_ne_true
 | int a =>
  cases r;obtain ⟨t',rfl⟩:=rv
  cases y with
  | non =>cases q;cases rw';exact ⟨ea,RcAt.int_none a t',RcNeAt.int_none a t'⟩
  | bl b=>cases q;cases rw';exact ⟨ea,RcAt.int_bool a t' b,RcNeAt.int_bool a t' b⟩
  | int b=>cases q;obtain ⟨t,rfl⟩:=rw';exact ⟨ea,RcAt.int_int a t' b t,RcNeAt.int_int a t' b t⟩
  | str b=>cases q;obtain ⟨t,rfl⟩:=rw';exact ⟨ea,RcAt.int_str a t' b t,RcNeAt.int_str a t' b t⟩
  | _=>exact absurd g Bool.false_ne_true
 | str a =>
  cases r;obtain ⟨t',rfl⟩:=rv
  cases y with
  | non =>cases q;cases rw';exact ⟨ea,RcAt.str_none a t',RcNeAt.str_none a t'⟩
  | bl b=>cases q;cases rw';exact ⟨ea,RcAt.str_bool a t' b,RcNeAt.str_bool a t' b⟩
  | int b=>cases q;obtain ⟨t,rfl⟩:=rw';exact ⟨ea,RcAt.str_int a t' b t,RcNeAt.str_int a t' b t⟩
  | str b=>cases q;obtain ⟨t,rfl⟩:=rw';exact ⟨ea,RcAt.str_str a t' b t,RcNeAt.str_str a t' b t⟩
  | _=>exact absurd g Bool.false_ne_true
 | _=>exact absurd f Bool.false_ne_true
theorem eqs_split {h:VH}:∀ {xs ys:List PV} {n:Nat} {b:Bool},eqsF h n xs ys=some b->∃ e:Nat->Bool,(∀ (j:Nat) x y,xs[j]?=some x->ys[j]?=some y->∃ m,m < n/\eqF h m x y=some (e j))/\(List.range (min xs.length ys.length)).all e=b
 | _,_,0,_,q=>by simp [eqsF] at q
 | [],ys,n + 1,b,q=>by
  simp only [eqsF,Option.some.injEq] at q;subst q
  exact ⟨fun _=>true,fun j x y e=>by simp at e,by simp⟩
 | x :: xs,[],n + 1,b,q=>by
  simp only [eqsF,Option.some.injEq] at q;subst q
  exact ⟨fun _=>true,fun j x y _ e=>by simp at e,by simp⟩
 | x :: xs,y :: ys,n + 1,b,q=>by
  unfold eqsF at q
  cases e1:eqF h n x y with
  | none=>rw [e1] at q;simp at q
  | some a =>
   cases e2:eqsF h n xs ys with
   | none=>rw [e1,e2] at q;simp at q
   | some c =>
    rw [e1,e2] at q
    simp only [Option.some.injEq] at q
    obtain ⟨e,he,hb⟩:=eqs_split e2
    refine ⟨fun j=>match j with | 0=>a | k + 1=>e k,fun j x' y' h1 h2=>?_,?_⟩
    ·cases j with
     | zero=>simp at h1 h2;subst h1;subst h2;exact ⟨n,Nat.lt_succ_self _,e1⟩
     | succ k=>simp at h1 h2;obtain ⟨m,hm,z⟩:=he k x' y' h1 h2;exact ⟨m,Nat.lt_succ_of_lt hm,z⟩
    ·rw [List.length_cons,List.length_cons,Nat.add_min_add_right,List.range_succ_eq_map,List.all_cons,List.all_map,<- q,<- hb]
     rfl
theorem ls_get {tb:Tb} {vh:VH} {i:Nat} {xs:List PV} {P:Program} {w:World} (S:Sim tb ρ vh H) (ok:HOk P w H s.heap) (e:lsOf vh i=some xs) {a:Addr} (ha:ρ[i]?=some a):∃ vs its,Reps ρ H xs vs/\Vals vs its/\s.heap.IsList a its.toArray/\Rd H a (.lst vs):=by
 obtain ⟨o,ho,r⟩:=S.at ha
 unfold lsOf at e
 rw [ho] at e
 cases o with
 | lst ys =>
  cases e
  obtain ⟨vs,hv,rr⟩:=r
  obtain ⟨_,its,n,rv,hg⟩:=ok a _ hv
  exact ⟨vs,its,rr,rv,⟨_,hg,rfl,n,rfl⟩,.inl hv⟩
 | scr ns =>
  cases e
  obtain ⟨ob,hv⟩:=r
  obtain ⟨hg,hz,its,n,rv,hg2⟩:=ok a _ hv
  refine ⟨ns.map V.int,its,?_,rv,⟨_,hg2,rfl,n,rfl⟩,.inr ⟨ob,hv⟩⟩
  clear hv hg hg2 rv ho hz
  induction ns with
  | nil=>rfl
  | cons k r ih=>exact ⟨_,_,rfl,rfl,ih⟩
 | dct _=>cases e
 | dtp _=>cases e
 | st _=>cases e
 | dfz _=>cases e
 | ins _ _=>cases e
theorem tup_get {vs:List V} {P:Program} {w:World} {a:Addr} (ok:HOk P w H s.heap) (ha:H a=some (.tup vs)):∃ its,Vals vs its/\s.heap.IsTuple a its.toArray:=by
 obtain ⟨_,its,rv,o,hg,hc,n,hd⟩:=ok a _ ha
 exact ⟨its,rv,o,hg,hc,n,hd⟩
theorem items_eq {us zs:List Value} {vs ws:List V} {xs ys:List PV} {e:Nat->Bool} (rx:Reps ρ H xs vs) (ry:Reps ρ H ys ws) (ru:Vals vs us) (rz:Vals ws zs)
  (k:∀ (j:Nat) x y v w u z,xs[j]?=some x->ys[j]?=some y->Rep ρ H x v->Rep ρ H y w->RelV v u->RelV w z->EqAt A.in1 s u z (e j)) :
  ∀ (j:Nat) (h1:j < us.toArray.size) (h2:j < zs.toArray.size),EqAt A.in1 s us.toArray[j] zs.toArray[j] (e j):=fun j h1 h2=>by
 have l1:us.length=xs.length:=rx.vals ru
 have l2:zs.length=ys.length:=ry.vals rz
 simp only [List.size_toArray] at h1 h2
 have g1:xs[j]?=some xs[j]:=List.getElem?_eq_getElem (by omega)
 have g2:ys[j]?=some ys[j]:=List.getElem?_eq_getElem (by omega)
 obtain ⟨v,hv,rv⟩:=rx.get g1
 obtain ⟨w,hw,rw'⟩:=ry.get g2
 obtain ⟨u,hu,qu⟩:=ru.get hv
 obtain ⟨z,hz,qz⟩:=rz.get hw
 have e1:us.toArray[j]=u:=by
  have:=(List.getElem?_eq_some_iff.mp hu).2;simpa using this
 have e2:zs.toArray[j]=z:=by
  have:=(List.getElem?_eq_some_iff.mp hz).2;simpa using this
 rw [e1,e2]
 exact k j _ _ v w u z g1 g2 rv rw' qu qz
theorem Reps.same_len {xs ys:List PV} {vs:List V} (a:Reps ρ H xs vs) (b:Reps ρ H ys vs):xs.length=ys.length:=by rw [<- a.length,<- b.length]
theorem kd_flat {vh:VH} {x:PV} (e:kd vh x=some .flat):fl x=true:=by
 cases x with
 | ref i=>simp only [kd] at e;cases q:lsOf vh i <;> (rw [q] at e;cases e)
 | _=>first | rfl | cases e
theorem kd_tp {vh:VH} {x:PV} {xs:List PV} (e:kd vh x=some (.tp xs)):x=.tup xs:=by
 cases x with
 | ref i=>simp only [kd] at e;cases q:lsOf vh i <;> (rw [q] at e;cases e)
 | tup ys=>cases e;rfl
 | _=>cases e
theorem kd_ls {vh:VH} {x:PV} {xs:List PV} (e:kd vh x=some (.ls xs)):∃ i,x=.ref i/\lsOf vh i=some xs:=by
 cases x with
 | ref i=>simp only [kd] at e;cases q:lsOf vh i with
  | none=>rw [q] at e;cases e
  | some ys=>rw [q] at e;cases e;exact ⟨i,rfl,q⟩
 | _=>cases e
theorem eqs_ft {x:PV} {v:V} {u:Value} {a:Addr} {its:Array Value} (r:Rep ρ H x v) (f:fl x=true) (rv:RelV v u) (t:s.heap.IsTuple a its) (hu:A.units < cLine):Eqs A s u (.ref a) false/\Eqs A s (.ref a) u false:=by
 cases x with
 | non=>cases r;cases rv;exact ⟨⟨.none_tuple t hu,.none_tuple t hu,.none_tuple t hu⟩,⟨.tuple_none t hu,.tuple_none t hu,.tuple_none t hu⟩⟩
 | bl k=>cases r;cases rv;exact ⟨⟨.bool_tuple k t hu,.bool_tuple k t hu,.bool_tuple k t hu⟩,⟨.tuple_bool k t hu,.tuple_bool k t hu,.tuple_bool k t hu⟩⟩
 | int k=>cases r;obtain ⟨t',rfl⟩:=rv;exact ⟨⟨.int_tuple k t' t hu,.int_tuple k t' t hu,.int_tuple k t' t hu⟩,⟨.tuple_int k t' t hu,.tuple_int k t' t hu,.tuple_int k t' t hu⟩⟩
 | str k=>cases r;obtain ⟨t',rfl⟩:=rv;exact ⟨⟨.str_tuple k t' t hu,.str_tuple k t' t hu,.str_tuple k t' t hu⟩,⟨.tuple_str k t' t hu,.tuple_str k t' t hu,.tuple_str k t' t hu⟩⟩
 | _=>exact absurd f Bool.false_ne_true
theorem eqs_fl {x:PV} {v:V} {u:Value} {a:Addr} {its:Array Value} (r:Rep ρ H x v) (f:fl x=true) (rv:RelV v u) (t:s.heap.IsList a its) (hu:A.units < cLine):Eqs A s u (.ref a) false/\Eqs A s (.ref a) u false:=by
 cases x with
 | non=>cases r;cases rv;exact ⟨⟨.none_list t hu,.none_list t hu,.none_list t hu⟩,⟨.list_none t hu,.list_none t hu,.list_none t hu⟩⟩
 | bl k=>cases r;cases rv;exact ⟨⟨.bool_list k t hu,.bool_list k t hu,.bool_list k t hu⟩,⟨.list_bool k t hu,.list_bool k t hu,.list_bool k t hu⟩⟩
 | int k=>cases r;obtain ⟨t',rfl⟩:=rv;exact ⟨⟨.int_list k t' t hu,.int_list k t' t hu,.int_list k t' t hu⟩,⟨.list_int k t' t hu,.list_int k t' t hu,.list_int k t' t hu⟩⟩
 | str k=>cases r;obtain ⟨t',rfl⟩:=rv;exact ⟨⟨.str_list k t' t hu,.str_list k t' t hu,.str_list k t' t hu⟩,⟨.list_str k t' t hu,.list_str k t' t hu,.list_str k t' t hu⟩⟩
 | _=>exact absurd f Bool.false_ne_true
theorem Eqs.of_refs {a c:Addr} {b:Bool} (rc:RcAt A s (.ref a) (.ref c) b) (ne:RcNeAt A s (.ref a) (.ref c) (!b)) (same:a=c->b=true):Eqs A s (.ref a) (.ref c) b:=by
 refine ⟨?_,rc,ne⟩
 by_cases h:a=c
 ·subst h;rw [same rfl];exact .same _
 ·exact .of_refs h rc
theorem eqs_ok {tb:Tb} {vh:VH} {P:Program} {w':World} (S:Sim tb ρ vh H) (ok:HOk P w' H s.heap):∀ (n:Nat) (A:Around),A.units + n < cLine->∀ (x y:PV) (b:Bool) (v w:V) (u z:Value),eqF vh n x y=some b->Rep ρ H x v->Rep ρ H y w->RelV v u->RelV w z->Eqs A s u z b/\(v=w->b=true):=by
 intro n
 induction n using Nat.strongRecOn with
 | _ n ih =>
 intro A hu x y b v w u z q rx ry rv rw'
 cases n with
 | zero=>simp [eqF] at q
 | succ n =>
 have hu0:A.units < cLine:=by omega
 have hin:∀ m,m < n->A.in1.units + m < cLine:=fun m hm=>by show A.units + 1 + m < cLine;omega
 unfold eqF at q
 cases ex:kd vh x with
 | none=>rw [ex] at q;simp at q
 | some kx =>
 cases ey:kd vh y with
 | none=>rw [ex,ey] at q;simp at q
 | some ky =>
 rw [ex,ey] at q
 cases kx with
 | flat =>
  have fx:=kd_flat ex
  cases ky with
  | flat =>
   have fy:=kd_flat ey
   cases q
   exact ⟨eqs_flat rx ry fx fy rv rw',fun e=>by subst e;exact feq_same rx ry fx fy⟩
  | tp ys =>
   cases q
   obtain rfl:=kd_tp ey
   obtain ⟨c,ws,rfl,hc,_⟩:=ry
   cases rw'
   obtain ⟨its,_,t⟩:=tup_get ok hc
   exact ⟨(eqs_ft rx fx rv t hu0).1,fun e=>by subst e;cases x <;> first | exact absurd fx Bool.false_ne_true | exact nomatch rx⟩
  | ls ys =>
   cases q
   obtain ⟨j,rfl,el⟩:=kd_ls ey
   obtain ⟨c,hc,rfl⟩:=ry
   cases rw'
   obtain ⟨_,its,_,_,t,_⟩:=ls_get S ok el hc
   exact ⟨(eqs_fl rx fx rv t hu0).1,fun e=>by subst e;cases x <;> first | exact absurd fx Bool.false_ne_true | exact nomatch rx⟩
 | tp xs =>
  obtain rfl:=kd_tp ex
  obtain ⟨a,vs,rfl,ha,rxs⟩:=rx
  cases rv
  obtain ⟨its,rvi,ta⟩:=tup_get ok ha
  cases ky with
  | flat =>
   cases q
   have fy:=kd_flat ey
   exact ⟨(eqs_ft ry fy rw' ta hu0).2,fun e=>by subst e;cases y <;> first | exact absurd fy Bool.false_ne_true | exact nomatch ry⟩
  | tp ys =>
   obtain rfl:=kd_tp ey
   obtain ⟨c,ws,rfl,hc,rys⟩:=ry
   cases rw'
   obtain ⟨itc,rwi,tc⟩:=tup_get ok hc
   dsimp only at q
   cases e1:eqsF vh n xs ys with
   | none=>rw [e1] at q;simp at q
   | some r =>
   rw [e1] at q
   simp only [Option.some.injEq] at q
   obtain ⟨e,he,hb⟩:=eqs_split e1
   have l1:its.length=xs.length:=rxs.vals rvi
   have l2:itc.length=ys.length:=rys.vals rwi
   have hit:=items_eq (A:=A) (s:=s) rxs rys rvi rwi (e:=e) fun j x y v w u z g1 g2 r1 r2 q1 q2=>by
    obtain ⟨m,hm,hz⟩:=he j x y g1 g2
    exact (ih m (by omega) A.in1 (hin m hm) x y (e j) v w u z hz r1 r2 q1 q2).1.at_
   have rc:=RcAt.tuples ta tc hu0 hit
   have ne:=RcNeAt.tuples ta tc hu0 hit
   simp only [List.size_toArray,l1,l2,hb,q] at rc ne
   have same:V.ref a=V.ref c->b=true:=fun z=>by
    cases z
    rw [ha] at hc;cases hc
    have ll:=rxs.same_len rys
    rw [<- q,<- hb,ll,beq_self_eq_true,Bool.and_true,List.all_eq_true]
    intro j hj
    have hj':j < ys.length:=by simpa using hj
    have g1:xs[j]?=some xs[j]:=List.getElem?_eq_getElem (by omega)
    have g2:ys[j]?=some ys[j]:=List.getElem?_eq_getElem hj'
    obtain ⟨m,hm,hz⟩:=he j _ _ g1 g2
    obtain ⟨v1,hv1,r1⟩:=rxs.get g1
    obtain ⟨v2,hv2,r2⟩:=rys.get g2
    obtain ⟨u1,_,q1⟩:=rvi.get hv1
    rw [hv1] at hv2;cases hv2
    exact (ih m (by omega) A.in1 (hin m hm) _ _ _ _ _ u1 u1 hz r1 r2 q1 q1).2 rfl
   exact ⟨Eqs.of_refs rc ne fun z=>same (by rw [z]),same⟩
  | ls ys =>
   cases q
   obtain ⟨j,rfl,el⟩:=kd_ls ey
   obtain ⟨c,hc,rfl⟩:=ry
   cases rw'
   obtain ⟨_,itc,_,_,tc,rd⟩:=ls_get S ok el hc
   have nac:a ≠ c:=fun z=>by
    subst z
    rcases rd with rd | ⟨o,rd⟩ <;> (rw [ha] at rd;cases rd)
   exact ⟨⟨.of_refs nac (RcAt.tuple_list ta tc hu0),RcAt.tuple_list ta tc hu0,RcNeAt.tuple_list ta tc hu0⟩,fun z=>by cases z;exact absurd rfl nac⟩
 | ls xs =>
  obtain ⟨i,rfl,el⟩:=kd_ls ex
  obtain ⟨a,ha,rfl⟩:=rx
  cases rv
  obtain ⟨vs,its,rxs,rvi,ta,rda⟩:=ls_get S ok el ha
  cases ky with
  | flat =>
   cases q
   have fy:=kd_flat ey
   exact ⟨(eqs_fl ry fy rw' ta hu0).2,fun e=>by subst e;cases y <;> first | exact absurd fy Bool.false_ne_true | exact nomatch ry⟩
  | tp ys =>
   cases q
   obtain rfl:=kd_tp ey
   obtain ⟨c,ws,rfl,hc,rys⟩:=ry
   cases rw'
   obtain ⟨itc,rwi,tc⟩:=tup_get ok hc
   have nac:a ≠ c:=fun z=>by
    subst z
    rcases rda with rd | ⟨o,rd⟩ <;> (rw [hc] at rd;cases rd)
   exact ⟨⟨.of_refs nac (RcAt.list_tuple ta tc hu0),RcAt.list_tuple ta tc hu0,RcNeAt.list_tuple ta tc hu0⟩,fun z=>by cases z;exact absurd rfl nac⟩
  | ls ys =>
   obtain ⟨j,rfl,el2⟩:=kd_ls ey
   obtain ⟨c,hc,rfl⟩:=ry
   cases rw'
   obtain ⟨ws,itc,rys,rwi,tc,rdc⟩:=ls_get S ok el2 hc
   have l1:its.length=xs.length:=rxs.vals rvi
   have l2:itc.length=ys.length:=rys.vals rwi
   dsimp only at q
   by_cases hl:xs.length=ys.length
   ·simp only [hl,if_true] at q
    obtain ⟨e,he,hb⟩:=eqs_split q
    have hit:=items_eq (A:=A) (s:=s) rxs rys rvi rwi (e:=e) fun j x y v w u z g1 g2 r1 r2 q1 q2=>by
     obtain ⟨m,hm,hz⟩:=he j x y g1 g2
     exact (ih m (by omega) A.in1 (hin m hm) x y (e j) v w u z hz r1 r2 q1 q2).1.at_
    have hsz:its.toArray.size=itc.toArray.size:=by simp [l1,l2,hl]
    have rc:=RcAt.lists ta tc hsz hu0 hit
    have ne:=RcNeAt.lists ta tc hsz hu0 hit
    rw [hl,Nat.min_self] at hb
    simp only [List.size_toArray,l1,hl,hb] at rc ne
    have same:V.ref a=V.ref c->b=true:=fun z=>by
     cases z
     have evs:vs=ws:=by
      rcases rda with r1 | ⟨o1,r1⟩ <;> rcases rdc with r2 | ⟨o2,r2⟩ <;> (rw [r1] at r2;cases r2) <;> rfl
     subst evs
     rw [<- hb,List.all_eq_true]
     intro k hk
     have hk':k < ys.length:=by simpa using hk
     have g1:xs[k]?=some xs[k]:=List.getElem?_eq_getElem (by omega)
     have g2:ys[k]?=some ys[k]:=List.getElem?_eq_getElem hk'
     obtain ⟨m,hm,hz⟩:=he k _ _ g1 g2
     obtain ⟨v1,hv1,r1⟩:=rxs.get g1
     obtain ⟨v2,hv2,r2⟩:=rys.get g2
     obtain ⟨u1,_,q1⟩:=rvi.get hv1
     rw [hv1] at hv2;cases hv2
     exact (ih m (by omega) A.in1 (hin m hm) _ _ _ _ _ u1 u1 hz r1 r2 q1 q1).2 rfl
    exact ⟨Eqs.of_refs rc ne fun z=>same (by rw [z]),same⟩
   ·simp only [hl,if_false,Option.some.injEq] at q
    subst q
    have hsz:(its.toArray.size != itc.toArray.size)=true:=by simp [l1,l2,hl]
    have nac:a ≠ c:=fun z=>by
     subst z
     have evs:vs=ws:=by
      rcases rda with r1 | ⟨o1,r1⟩ <;> rcases rdc with r2 | ⟨o2,r2⟩ <;> (rw [r1] at r2;cases r2) <;> rfl
     subst evs
     exact hl (rxs.same_len rys)
    exact ⟨⟨.of_refs nac (RcAt.lists_lengths ta tc hsz hu0),RcAt.lists_lengths ta tc hsz hu0,RcNeAt.lists_lengths ta tc hsz hu0⟩,fun z=>by cases z;exact absurd rfl nac⟩
end
end FS
namespace FS
open PySem PySem.Spec PyProof.Rows L2 FX
section
variable {tb:Tb} {X:Cx} {pos:Pos} {a b c:Expr} {fa fb fc:FE}
def gEq:G2:=fun x y h=>match eqF h 40 x y with
 | some k=>.ok (.bl k) h
 | none=>.bad
def gNe:G2:=fun x y h=>match eqF h 40 x y with
 | some k=>.ok (.bl (!k)) h
 | none=>.bad
def rOf (tb:Tb) (X:Cx) (g:G2):R2:=fun w1 w2 H Q=>∃ σ ρ vh v1 v2,Sim tb ρ vh H/\Rep ρ H v1 w1/\Rep ρ H v2 w2/\Post tb X σ ρ H (g v1 v2 vh) Q
theorem o_of (g:G2):Op2 tb X (rOf tb X g) g:=fun σ ρ vh H v1 v2 w1 w2 Q S r1 r2 p=>⟨σ,ρ,vh,v1,v2,S,r1,r2,p⟩
theorem op_eqF (hu:X.A.units + 40 < cLine):OpR X (compareOp .Eq) (rOf tb X gEq):=fun pins s σ H x y v u Q I rx ry ⟨σ',ρ,vh,v1,v2,S,r1,r2,p⟩=>by
 unfold gEq at p
 cases e:eqF vh 40 v1 v2 with
 | none=>rw [e] at p;exact p.elim
 | some k =>
  rw [e] at p
  exact (eqs_ok S I.hok 40 X.A hu v1 v2 k x y v u e r1 r2 rx ry).1.rc _ _ _ _ ⟨.bl k,H,I,rfl,Post.here p S rfl⟩
theorem op_neF (hu:X.A.units + 40 < cLine):OpR X (compareOp .NotEq) (rOf tb X gNe):=fun pins s σ H x y v u Q I rx ry ⟨σ',ρ,vh,v1,v2,S,r1,r2,p⟩=>by
 unfold gNe at p
 cases e:eqF vh 40 v1 v2 with
 | none=>rw [e] at p;exact p.elim
 | some k =>
  rw [e] at p
  exact (eqs_ok S I.hok 40 X.A hu v1 v2 k x y v u e r1 r2 rx ry).1.ne _ _ _ _ ⟨.bl (!k),H,I,rfl,Post.here p S rfl⟩
theorem e_eq (hu:X.A.units + 40 < cLine) (ha:EOk tb X a fa) (hb:EOk tb X b fb) (hm:behindInMarks .Eq b=false:=by rfl):EOk tb X (.Compare a [.Eq] [b] pos) (fOp gEq fa fb):=e_cmp (op_eqF hu) (o_of gEq) ha hb hm
theorem t_eq (hu:X.A.units + 40 < cLine) (ha:EOk tb X a fa) (hb:EOk tb X b fb) (hm:behindInMarks .Eq b=false:=by rfl):TOk tb X (.Compare a [.Eq] [b] pos) (fB (fOp gEq fa fb)):=t_cmp (op_eqF hu) (o_of gEq) ha hb hm
theorem t_ne (hu:X.A.units + 40 < cLine) (ha:EOk tb X a fa) (hb:EOk tb X b fb) (hm:behindInMarks .NotEq b=false:=by rfl):TOk tb X (.Compare a [.NotEq] [b] pos) (fB (fOp gNe fa fb)):=t_cmp (op_neF hu) (o_of gNe) ha hb hm
def gMul:G2:=fun x y=>match x,y with
 | .int i,.int j=>if (-(2 ^ 64) < i/\i < 2 ^ 64)\/(-(2 ^ 64) < j/\j < 2 ^ 64)\/(i.natAbs < 2 ^ 400/\j.natAbs < 2 ^ 400) then M.ret (.int (i * j)) else M.bad
 | _,_=>M.bad
def gMod:G2:=fun x y=>match x,y with | .int i,.int j=>if 0 < j then M.ret (.int (i % j)) else M.bad | _,_=>M.bad
def gDiv:G2:=fun x y=>match x,y with | .int i,.int j=>if 0 < j/\j < 2 ^ 400 then M.ret (.int (i / j)) else M.bad | _,_=>M.bad
def gPow:G2:=fun x y=>match x,y with | .int i,.int j=>if 0<=j/\j<=1000000/\i.natAbs < 2 ^ 64 then M.ret (.int (i ^ j.toNat)) else M.bad | _,_=>M.bad
theorem bits400 {i:Int} (h:i.natAbs < 2 ^ 400):Builtin.Int.intBits i<=400:=by
 unfold Builtin.Int.intBits
 split
 ·omega
 ·rename_i hz
  have h0:i.natAbs ≠ 0:=fun z=>hz (by simpa using z)
  have:=(Nat.log2_lt h0).mpr h
  omega
theorem mul_ok {i j:Int} (h:(-(2 ^ 64) < i/\i < 2 ^ 64)\/(-(2 ^ 64) < j/\j < 2 ^ 64)\/(i.natAbs < 2 ^ 400/\j.natAbs < 2 ^ 400)):IntMulOk i j:=by
 rcases h with h | h | ⟨h1,h2⟩
 ·exact CMul.ok (.inl h)
 ·exact CMul.ok (.inr h)
 ·have a:=bits400 h1
  have b:=bits400 h2
  unfold IntMulOk Builtin.Int.intTooBig
  have:¬ ((Builtin.Int.intBits i + Builtin.Int.intBits j:Int) > (bitsLine:Int)):=by
   have hb:(800:Int)<=(bitsLine:Int):=by decide
   omega
  have:(Builtin.Int.intBits i + Builtin.Int.intBits j:Int)<=(bitsLine:Int):=by omega
  simp [this]
theorem op_mulF:OpR X (binaryOp .Mult) (rI (fun i j=>(-(2 ^ 64) < i/\i < 2 ^ 64)\/(-(2 ^ 64) < j/\j < 2 ^ 64)\/(i.natAbs < 2 ^ 400/\j.natAbs < 2 ^ 400)) fun i j=>.int (i * j)):=opI fun _ _ _ _ _ _ _ hc q=>mul_int q (mul_ok hc)
theorem op_divF:OpR X (binaryOp .FloorDiv) (rI (fun _ j=>0 < j/\j < 2 ^ 400) fun i j=>.int (i / j)):=opI fun i j _ _ _ _ _ hc q=>by
 have h1:(0:Int) < j:=hc.1
 have h2:j < 2 ^ 400:=hc.2
 refine floordiv_int (by omega) (by rw [Int.fdiv_eq_ediv_of_nonneg i (by omega)];exact q) (.inl (PyProof.noPylong_of_log2 ?_))
 have h0:j.natAbs ≠ 0:=by omega
 have h3:j.natAbs < 2 ^ 400:=by omega
 have:=(Nat.log2_lt h0).mpr h3
 omega
theorem o_I2 {C:Int->Int->Prop} [∀ i j,Decidable (C i j)] {f:Int->Int->Int}:Op2 tb X (rI C fun i j=>.int (f i j)) (fun x y=>match x,y with | .int i,.int j=>if C i j then M.ret (.int (f i j)) else M.bad | _,_=>M.bad):=fun σ ρ vh H v1 v2 w1 w2 Q S r1 r2 p=>by
 cases v1 with
 | int i=>cases v2 with
  | int j =>
   dsimp only at p
   by_cases hc:C i j
   ·rw [if_pos hc] at p;exact ⟨i,j,r1,r2,hc,Post.here p S rfl⟩
   ·rw [if_neg hc] at p;exact p.elim
  | _=>exact p.elim
 | _=>exact p.elim
theorem e_mul (ha:EOk tb X a fa) (hb:EOk tb X b fb):EOk tb X (.BinOp a .Mult b pos) (fOp gMul fa fb):=e_op op_mulF o_I2 ha hb
theorem e_mod (ha:EOk tb X a fa) (hb:EOk tb X b fb):EOk tb X (.BinOp a .Mod b pos) (fOp gMod fa fb):=e_op op_mod o_I2 ha hb
theorem e_div (ha:EOk tb X a fa) (hb:EOk tb X b fb):EOk tb X (.BinOp a .FloorDiv b pos) (fOp gDiv fa fb):=e_op op_divF o_I2 ha hb
theorem e_pow (ha:EOk tb X a fa) (hb:EOk tb X b fb):EOk tb X (.BinOp a .Pow b pos) (fOp gPow fa fb):=e_op (r:=rI (fun i j=>0<=j/\j<=1000000/\i.natAbs < 2 ^ 64) fun i j=>.int (i ^ j.toNat)) op_pow o_I2 ha hb
theorem t_ge (ha:EOk tb X a fa) (hb:EOk tb X b fb) (hm:behindInMarks .GtE b=false:=by rfl):TOk tb X (.Compare a [.GtE] [b] pos) (fB (fOp (gI fun i j=>decide (j<=i)) fa fb)):=t_cmp op_ge (o_I _) ha hb hm
theorem t_lt (ha:EOk tb X a fa) (hb:EOk tb X b fb) (hm:behindInMarks .Lt b=false:=by rfl):TOk tb X (.Compare a [.Lt] [b] pos) (fB (fOp (gI fun i j=>decide (i < j)) fa fb)):=t_cmp op_lt (o_I _) ha hb hm
theorem t_gt (ha:EOk tb X a fa) (hb:EOk tb X b fb) (hm:behindInMarks .Gt b=false:=by rfl):TOk tb X (.Compare a [.Gt] [b] pos) (fB (fOp (gI fun i j=>decide (j < i)) fa fb)):=t_cmp op_gt (o_I _) ha hb hm
def gPlus:G2:=fun x y=>match x,y with
 | .int i,.int j=>M.ret (.int (i + j))
 | .str i,.str j=>if i.length + j.length<=big then M.ret (.str (i++j)) else M.bad
 | .tup xs,.tup ys=>if xs ≠ []/\xs.length + ys.length<=big then M.ret (.tup (xs++ys)) else M.bad
 | .ref i,.ref j=>fun h=>match h[i]?,h[j]? with
  | some (.lst xs),some (.lst ys)=>if xs.length + ys.length<=big then alloc (.lst (xs++ys)) h else .bad
  | _,_=>.bad
 | _,_=>M.bad
theorem op_plusF:OpR X (binaryOp .Add) (fun x y H Q=>(rI0 (fun i j=>.int (i + j)) x y H Q\/∃ i j,x=.str i/\y=.str j/\i.length + j.length<=sizeLine/\Q (.str (i++j)) H)\/(rCatT X.K x y H Q\/rCat x y H Q)):=fun pins s σ H x y v u Q I rx ry q=>by
 rcases q with (q | q) | (q | q)
 ·exact op_add pins s σ H x y v u Q I rx ry q
 ·exact op_add_str pins s σ H x y v u Q I rx ry q
 ·exact op_catT pins s σ H x y v u Q I rx ry q
 ·exact op_cat pins s σ H x y v u Q I rx ry q
theorem Reps.append {ρ:List Addr} {H:Hp}:∀ {xs ys:List PV} {vs ws:List V},Reps ρ H xs vs->Reps ρ H ys ws->Reps ρ H (xs++ys) (vs++ws)
 | [],_,_,_,h,k=>by rw [show _=[] from h];exact k
 | _ :: _,_,_,_,h,k=>by obtain ⟨v,ws',rfl,r,t⟩:=h;exact ⟨v,_,rfl,r,Reps.append t k⟩
theorem sim_lst {ρ:List Addr} {vh:VH} {H:Hp} (S:Sim tb ρ vh H) {i:Nat} {p:Addr} {xs:List PV} (h:ρ[i]?=some p) (e:vh[i]?=some (VO.lst xs)):∃ vs,H p=some (HO.lst vs)/\Reps ρ H xs vs:=S.obj i p _ h e
theorem o_plus:Op2 tb X (fun x y H Q=>(rI0 (fun i j=>.int (i + j)) x y H Q\/∃ i j,x=.str i/\y=.str j/\i.length + j.length<=sizeLine/\Q (.str (i++j)) H)\/(rCatT X.K x y H Q\/rCat x y H Q)) gPlus:=fun σ ρ vh H v1 v2 w1 w2 Q S r1 r2 p=>by
 cases v1 with
 | int i=>cases v2 with
  | int j=>exact .inl (.inl ⟨i,j,r1,r2,Post.here p S rfl⟩)
  | _=>exact p.elim
 | str i=>cases v2 with
  | str j =>
   simp only [gPlus] at p
   by_cases hz:i.length + j.length<=big
   ·rw [if_pos hz] at p;exact .inl (.inr ⟨i,j,r1,r2,Nat.le_trans hz big_le,Post.here p S rfl⟩)
   ·rw [if_neg hz] at p;exact p.elim
  | _=>exact p.elim
 | tup xs=>cases v2 with
  | tup ys =>
   simp only [gPlus] at p
   by_cases hz:xs ≠ []/\xs.length + ys.length<=big
   ·rw [if_pos hz] at p
    obtain ⟨a1,vs,e1,h1,q1⟩:=r1
    obtain ⟨a2,ws,e2,h2,q2⟩:=r2
    refine .inr (.inl ⟨a1,a2,vs,ws,e1,e2,SqT.of h1,SqT.of h2,fun z=>?_,?_,fun z=>?_,fun _ p' hp=>Post.tup p S (q1.append q2) hp⟩)
    ·subst z;exact hz.1 (List.eq_nil_of_length_eq_zero (by rw [<- q1.length];rfl))
    ·rw [q1.length,q2.length];exact Nat.le_trans hz.2 big_le
    ·subst z
     have ey:ys=[]:=List.eq_nil_of_length_eq_zero (by rw [<- q2.length];rfl)
     subst ey
     rw [List.append_nil] at p
     exact Post.here p S ⟨a1,vs,rfl,h1,q1⟩
   ·rw [if_neg hz] at p;exact p.elim
  | _=>exact p.elim
 | ref i=>cases v2 with
  | ref j =>
   simp only [gPlus] at p
   obtain ⟨p1,h1,e1⟩:=r1
   obtain ⟨p2,h2,e2⟩:=r2
   cases ei:vh[i]? with
   | none=>rw [ei] at p;exact p.elim
   | some o1 =>
    cases ej:vh[j]? with
    | none=>rw [ei,ej] at p;cases o1 <;> exact p.elim
    | some o2 =>
     rw [ei,ej] at p
     cases o1 with
     | lst xs=>cases o2 with
      | lst ys =>
       dsimp only at p
       by_cases hz:xs.length + ys.length<=big
       ·rw [if_pos hz] at p
        obtain ⟨vs,g1,q1⟩:=sim_lst S h1 ei
        obtain ⟨ws,g2,q2⟩:=sim_lst S h2 ej
        exact .inr (.inr ⟨p1,p2,vs,ws,e1,e2,g1,g2,by rw [q1.length,q2.length];exact Nat.le_trans hz big_le,fun p' hp=>Post.lst p S (q1.append q2) hp⟩)
       ·rw [if_neg hz] at p;exact p.elim
      | _=>exact p.elim
     | _=>exact p.elim
  | _=>exact p.elim
 | _=>exact p.elim
theorem e_plus (ha:EOk tb X a fa) (hb:EOk tb X b fb):EOk tb X (.BinOp a .Add b pos) (fOp gPlus fa fb):=e_op op_plusF o_plus ha hb
end
end FS
namespace FS
open PySem PySem.Spec PyProof.Rows L2 FX
section
variable {tb:Tb} {X:Cx} {pos p:Pos} {a b c e:Expr} {es:List Expr} {fa fb fc:FE} {fs:FA} {x:Str}
def gIx:G2:=fun x y=>match y with
 | .int i=>match x with
  | .tup xs=>match atI xs i with
   | some v=>M.ret v
   | none=>M.bad
  | .ref l=>fun h=>match lsOf h l with
   | some xs=>match atI xs i with
    | some v=>.ok v h
    | none=>.bad
   | none=>.bad
  | .str z=>if z.length<=big then match atI z.cps.toList i with
    | some k=>M.ret (.str ⟨#[k]⟩)
    | none=>M.bad
   else M.bad
  | _=>M.bad
 | _=>M.bad
theorem atI_rep {ρ:List Addr} {H:Hp} {xs:List PV} {vs:List V} {i:Int} {v:PV} (r:Reps ρ H xs vs) (e:atI xs i=some v):∃ w,atI vs i=some w/\Rep ρ H v w:=by
 unfold atI at e ⊢
 rw [r.length]
 cases q:ixN xs.length i with
 | none=>rw [q] at e;cases e
 | some j =>
  rw [q] at e
  obtain ⟨w,h1,h2⟩:=r.get (i:=j) e
  exact ⟨w,h1,h2⟩
theorem ls_rd {ρ:List Addr} {vh:VH} {H:Hp} (S:Sim tb ρ vh H) {i:Nat} {xs:List PV} (e:lsOf vh i=some xs) {a:Addr} (ha:ρ[i]?=some a):∃ vs,Reps ρ H xs vs/\Rd H a (.lst vs):=by
 obtain ⟨o,ho,r⟩:=S.at ha
 unfold lsOf at e
 rw [ho] at e
 cases o with
 | lst ys=>cases e;obtain ⟨vs,hv,rr⟩:=r;exact ⟨vs,rr,.inl hv⟩
 | scr ns =>
  cases e
  obtain ⟨ob,hv⟩:=r
  refine ⟨ns.map V.int,?_,.inr ⟨ob,hv⟩⟩
  clear hv ho
  induction ns with
  | nil=>rfl
  | cons k r ih=>exact ⟨_,_,rfl,rfl,ih⟩
 | dct _=>cases e
 | dtp _=>cases e
 | st _=>cases e
 | dfz _=>cases e
 | ins _ _=>cases e
theorem o_ix:Op2 tb X (rIx X.K) gIx:=fun σ ρ vh H v1 v2 w1 w2 Q S r1 r2 p=>by
 cases v2 with
 | int i =>
  cases v1 with
  | tup xs =>
   obtain ⟨a1,vs,e1,h1,q1⟩:=r1
   simp only [gIx] at p
   cases q:atI xs i with
   | none=>rw [q] at p;exact p.elim
   | some v =>
    rw [q] at p
    obtain ⟨w,h2,h3⟩:=atI_rep q1 q
    exact .inr (.inl ⟨a1,vs,i,w,e1,r2,SqT.of h1,h2,Post.here p S h3⟩)
  | ref l =>
   obtain ⟨a1,h1,e1⟩:=r1
   simp only [gIx] at p
   cases ql:lsOf vh l with
   | none=>rw [ql] at p;exact p.elim
   | some xs =>
    rw [ql] at p
    dsimp only at p
    cases q:atI xs i with
    | none=>rw [q] at p;exact p.elim
    | some v =>
     rw [q] at p
     obtain ⟨vs,rr,rd⟩:=ls_rd S ql h1
     obtain ⟨w,h2,h3⟩:=atI_rep rr q
     exact .inl ⟨a1,vs,i,w,e1,r2,.inl rd,h2,Post.here p S h3⟩
  | str z =>
   simp only [gIx] at p
   by_cases hz:z.length<=big
   ·rw [if_pos hz] at p
    cases q:atI z.cps.toList i with
    | none=>rw [q] at p;exact p.elim
    | some k=>rw [q] at p;exact .inr (.inr ⟨z,i,k,r1,r2,Nat.le_trans hz big_le,q,Post.here p S rfl⟩)
   ·rw [if_neg hz] at p;exact p.elim
  | _=>exact p.elim
 | _=>exact p.elim
theorem e_ix (ha:EOk tb X a fa) (hb:EOk tb X b fb) (hs:PlainIx b:=by intro _ _;rfl):EOk tb X (.Subscript a b pos) (fOp gIx fa fb):=PE.mono (pe_ix ix_seq ha hb hs) (op_mono o_ix)
def CB (tb:Tb) (X:Cx) (r:List V->Hp->VK->Prop) (g:FF):Prop:=∀ σ ρ vh H xs ws Q,Hd X.A.handled H->Sim tb ρ vh H->Reps ρ H xs ws->Post tb X σ ρ H (g xs vh) Q->r ws H Q
def fCB (g:FF) (fs:FA):FE:=fun τ=>M.bind (fs τ) g
theorem cb_mono {r:List V->Hp->VK->Prop} {g:FF} (h:CB tb X r g):∀ σ H Q,tOf tb X (fCB g fs) σ H Q->tCB r (tOfA tb X fs) σ H Q:=fun σ H Q ⟨ρ,vh,τ,st,S,p⟩ =>
 ⟨ρ,vh,τ,st,S,seqAE p fun vh1 ρ1 H1 v1 w1 p1 k1 S1 r1 q1=>h σ ρ1 vh1 H1 v1 w1 Q (st.hd.mono k1) S1 r1 q1⟩
theorem e_callB {id:String} {r:List V->Hp->VK->Prop} {g:FF} (hc:CallR X (.builtin id) r) (h:CB tb X r g) (hg:Gl X x) (hm:X.mg x=none) (hv:bootBuiltins x=some (.builtin id)) (ha:AOk tb X (e :: es) fs) (hn:x ≠ "__name__" := by decide)
  (hdb:(x == ("__debug__" : Str))=false:=by decide) (he:starEach (e :: es) X.env=(false,eval e X.env) :: starEach es X.env:=by rfl) (hpl:(backTo pos (starEach es X.env)).any (·.1)=false:=by rfl):EOk tb X (.Call (.Name x p) (e :: es) [] pos) (fCB g fs) :=
 PE.mono (pe_callB hc hg hm hv ha hn hdb he hpl) (cb_mono h)
theorem e_callTy {T:String} {r:List V->Hp->VK->Prop} {g:FF} (hc:CallR X (.type T) r) (h:CB tb X r g) (hg:Gl X x) (hm:X.mg x=none) (hv:bootBuiltins x=some (.type T)) (ha:AOk tb X (e :: es) fs) (hn:x ≠ "__name__" := by decide)
  (hdb:(x == ("__debug__" : Str))=false:=by decide) (he:starEach (e :: es) X.env=(false,eval e X.env) :: starEach es X.env:=by rfl) (hpl:(backTo pos (starEach es X.env)).any (·.1)=false:=by rfl):EOk tb X (.Call (.Name x p) (e :: es) [] pos) (fCB g fs) :=
 PE.mono (pe_callTy hc hg hm hv ha hn hdb he hpl) (cb_mono h)
def rcOf (tb:Tb) (X:Cx) (g:FF):List V->Hp->VK->Prop:=fun ws H Q=>∃ σ ρ vh xs,Hd X.A.handled H/\Sim tb ρ vh H/\Reps ρ H xs ws/\Post tb X σ ρ H (g xs vh) Q
theorem cb_of (g:FF):CB tb X (rcOf tb X g) g:=fun σ ρ vh H xs ws Q hd S r p=>⟨σ,ρ,vh,xs,hd,S,r,p⟩
def gLen:FF:=fun xs=>match xs with
 | [.str z]=>if z.length<=big then M.ret (.int z.length) else M.bad
 | [.tup ys]=>M.ret (.int ys.length)
 | [.ref l]=>fun h=>match lsOf h l with
  | some ys=>.ok (.int ys.length) h
  | none=>.bad
 | _=>M.bad
theorem call_lenF:CallR X (.builtin "len") (rcOf tb X gLen):=fun pins s σ H xs us Q I rs ⟨σ',ρ,vh,ys,hd,S,r,p⟩=>by
 cases ys with
 | nil=>exact p.elim
 | cons y ys =>
  obtain ⟨w,ws,rfl,r1,r2⟩:=r
  cases ys with
  | cons _ _=>cases y <;> exact p.elim
  | nil =>
   cases (show ws=[] from r2)
   cases y with
   | str z =>
    simp only [gLen] at p
    by_cases hz:z.length<=big
    ·rw [if_pos hz] at p;exact call_len_str pins s σ H _ us Q I rs ⟨z,by rw [show w=_ from r1],Nat.le_trans hz big_le,Post.here p S rfl⟩
    ·rw [if_neg hz] at p;exact p.elim
   | tup zs =>
    obtain ⟨a1,vs,e1,h1,q1⟩:=r1
    refine call_len_seq pins s σ H _ us Q I rs ⟨a1,vs,by rw [e1],.inr (SqT.of h1),?_⟩
    rw [q1.length];exact Post.here p S rfl
   | ref l =>
    obtain ⟨a1,h1,e1⟩:=r1
    simp only [gLen] at p
    cases ql:lsOf vh l with
    | none=>rw [ql] at p;exact p.elim
    | some zs =>
     rw [ql] at p
     obtain ⟨vs,rr,rd⟩:=ls_rd S ql h1
     refine call_len_seq pins s σ H _ us Q I rs ⟨a1,vs,by rw [e1],.inl (.inl rd),?_⟩
     rw [rr.length];exact Post.here p S rfl
   | _=>exact p.elim
def gInt:FF:=fun xs=>match xs with
 | [.int i]=>M.ret (.int i)
 | [.bl k]=>M.ret (.int (if k then 1 else 0))
 | _=>M.bad
theorem cb_int:CB tb X (fun xs H Q=>(∃ i,xs=[V.int i]/\Q (.int i) H)\/∃ k,xs=[V.bl k]/\Q (.int (if k then 1 else 0)) H) gInt:=fun σ ρ vh H xs ws Q hd S r p=>by
 cases xs with
 | nil=>exact p.elim
 | cons y ys =>
  obtain ⟨w,ws',rfl,r1,r2⟩:=r
  cases ys with
  | cons _ _=>cases y <;> exact p.elim
  | nil =>
   cases (show ws'=[] from r2)
   cases y with
   | int i=>exact .inl ⟨i,by rw [show w=_ from r1],Post.here p S rfl⟩
   | bl k=>exact .inr ⟨k,by rw [show w=_ from r1],Post.here p S rfl⟩
   | _=>exact p.elim
def gMax:FF:=fun xs=>match xs with
 | [.int i,.int j]=>M.ret (.int (if j > i then j else i))
 | _=>M.bad
def gMin:FF:=fun xs=>match xs with
 | [.int i,.int j]=>M.ret (.int (if j < i then j else i))
 | _=>M.bad
theorem two_ints {ρ:List Addr} {H:Hp} {xs:List PV} {ws:List V} {g:Int->Int->M PV} {σ:St} {vh:VH} {Q:VK} (r:Reps ρ H xs ws) (p:Post tb X σ ρ H ((match xs with | [.int i,.int j]=>g i j | _=>M.bad) vh) Q):∃ i j,ws=[V.int i,V.int j]/\Post tb X σ ρ H (g i j vh) Q:=by
 match xs,r,p with
 | [],_,p=>exact p.elim
 | [y],_,p=>cases y <;> exact p.elim
 | y :: z :: t :: u,_,p=>cases y <;> cases z <;> exact p.elim
 | [y,z],r,p =>
  obtain ⟨w,ws',rfl,r1,w2,ws2,rfl,r2,rfl⟩:=r
  cases y <;> first | (exact p.elim) | (cases z <;> first | exact p.elim | exact ⟨_,_,by rw [show w=_ from r1,show w2=_ from r2],p⟩)
theorem cb_max:CB tb X (fun xs H Q=>∃ i j,xs=[V.int i,V.int j]/\Q (.int (if j > i then j else i)) H) gMax:=fun σ ρ vh H xs ws Q hd S r p=>by
 obtain ⟨i,j,e,q⟩:=two_ints (g:=fun i j=>M.ret (.int (if j > i then j else i))) r p
 exact ⟨i,j,e,Post.here q S rfl⟩
theorem cb_min:CB tb X (fun xs H Q=>∃ i j,xs=[V.int i,V.int j]/\Q (.int (if j < i then j else i)) H) gMin:=fun σ ρ vh H xs ws Q hd S r p=>by
 obtain ⟨i,j,e,q⟩:=two_ints (g:=fun i j=>M.ret (.int (if j < i then j else i))) r p
 exact ⟨i,j,e,Post.here q S rfl⟩
end
end FS
namespace FS
open PySem PySem.Spec PyProof.Rows L2 FX
abbrev Src:=Nat->VH->Option (Option PV)
def srcL (l:Nat):Src:=fun i h=>match lsOf h l with
 | some xs=>some xs[i]?
 | none=>none
def srcR (lo:Int) (n:Nat):Src:=fun i _=>some (if i < n then some (.int (lo + i)) else none)
def loopF (src:Src) (g:FG) (body:FSt):Nat->Nat->FSt
 | 0,_=>fun _ _=>.bad
 | n + 1,i=>fun τ h=>match src i h with
  | none=>.bad
  | some none=>.next τ h
  | some (some x)=>match g x τ h with
   | .next τ1 h1=>match body τ1 h1 with
    | .next τ2 h2=>loopF src g body n (i + 1) τ2 h2
    | .cont τ2 h2=>loopF src g body n (i + 1) τ2 h2
    | .brk τ2 h2=>.next τ2 h2
    | .ret v h2=>.ret v h2
    | _=>.bad
   | _=>.bad
def lenL (h:VH) (l:Nat):Nat:=match lsOf h l with
 | some xs=>xs.length
 | none=>0
def sForL (fi:FE) (g:FG) (body:FSt):FSt:=fun τ h=>match fi τ h with
 | .ok (.ref l) h1=>loopF (srcL l) g body (lenL h1 l + 1) 0 τ h1
 | _=>.bad
section
variable {tb:Tb} {X:Cx} {pos:Pos}
theorem PS.nox' {st:Stmt} {t:TS} (h:PS X.nox st t):PS X st t:=fun pins s σ H D I hw =>
 wpAny_mono (h pins s σ H D (I.wish _) hw) (fun _ _ q=>q.unwish) fun _ _ z=>False.elim z
def LoopIn (tb:Tb) (X:Cx) (src:Src) (g:FG) (body:FSt) (D:Ends) (l:Nat) (a:Addr) (n i:Nat) (σ:St) (H:Hp):Prop :=
 ∃ ρ vh τ,ρ[l]?=some a/\StRel X.A.handled ρ H τ σ/\Sim tb ρ vh H/\PostS tb X.nox ρ H (loopF src g body n i τ vh) D
theorem loop_turn {src:Src} {g:FG} {body:FSt} {n i:Nat} {D:Ends} {σ:St} {ρ:List Addr} {H:Hp} {vh:VH} {τ:Tau} {x:PV} {w:V} {l:Nat} {a:Addr} (la:ρ[l]?=some a)
  (st:StRel X.A.handled ρ H τ σ) (S:Sim tb ρ vh H) (r:Rep ρ H x w) (e:src i vh=some (some x)) (p:PostS tb X.nox ρ H (loopF src g body (n + 1) i τ vh) D) :
  tOfG tb X.nox g w σ H fun σ2 H2=>tOfS tb X.nox body { D with nx:=(LoopIn tb X src g body D l a n (i + 1)),ct:=(LoopIn tb X src g body D l a n (i + 1)),bk:=D.nx } σ2 H2:=by
 refine ⟨ρ,vh,τ,x,st,S,r,?_⟩
 unfold loopF at p
 rw [e] at p
 dsimp only at p
 cases e1:g x τ vh with
 | next τ1 h1 =>
  rw [e1] at p
  refine fun ρ1 H1 σ1 p1 k1 S1 st1=>⟨ρ1,h1,τ1,st1,S1,?_⟩
  dsimp only at p
  cases e2:body τ1 h1 with
  | next τ2 h2=>rw [e2] at p;exact fun ρ2 H2 σ2 p2 k2 S2 st2=>⟨ρ2,h2,τ2,pre_get (p1.trans p2) la,st2,S2,PostS.fwd (p1.trans p2) (k1.trans k2) p⟩
  | cont τ2 h2=>rw [e2] at p;exact fun ρ2 H2 σ2 p2 k2 S2 st2=>⟨ρ2,h2,τ2,pre_get (p1.trans p2) la,st2,S2,PostS.fwd (p1.trans p2) (k1.trans k2) p⟩
  | brk τ2 h2=>rw [e2] at p;exact fun ρ2 H2 σ2 p2 k2 S2 st2=>p ρ2 H2 σ2 (p1.trans p2) (k1.trans k2) S2 st2
  | ret v h2=>rw [e2] at p;exact fun ρ2 H2 w2 p2 k2 S2 r2=>p ρ2 H2 w2 (p1.trans p2) (k1.trans k2) S2 r2
  | exc y h2=>rw [e2] at p;exact p.elim
  | bad=>rw [e2] at p;exact p.elim
 | brk _ _=>rw [e1] at p;exact p.elim
 | cont _ _=>rw [e1] at p;exact p.elim
 | ret _ _=>rw [e1] at p;exact p.elim
 | exc _ _=>rw [e1] at p;exact p.elim
 | bad=>rw [e1] at p;exact p.elim
theorem loop_list {K:PySem.W.Frag} {g:FG} {body:FSt} {D:Ends} {σ:St} {ρ:List Addr} {H:Hp} {vh:VH} {τ:Tau} {l:Nat} {a:Addr} {n:Nat} (la:ρ[l]?=some a)
  (st:StRel X.A.handled ρ H τ σ) (S:Sim tb ρ vh H) (p:PostS tb X.nox ρ H (loopF (srcL l) g body n 0 τ vh) D) :
  ∃ W:Nat->Nat->St->Hp->Prop,(∃ m,W 0 m σ H)/\∀ i m σ H,W i m σ H ->
   ((Itl K a).stop i H/\D.nx σ H)\/((Itl K a).go i H/\∃ N:St->Hp->Prop,(∀ σ' H',N σ' H'->∃ m',m' < m/\W (i + 1) m' σ' H')/\∀ x H',(Itl K a).yld i H x H'->tOfG tb X.nox g x σ H' fun σ2 H2=>tOfS tb X.nox body { D with nx:=N,ct:=N,bk:=D.nx } σ2 H2):=by
 refine ⟨fun i m σ H=>LoopIn tb X (srcL l) g body D l a m i σ H,⟨n,ρ,vh,τ,la,st,S,p⟩,?_⟩
 rintro i m σ H ⟨ρ,vh,τ,la,st,S,p⟩
 cases m with
 | zero=>exact p.elim
 | succ m =>
  have p0:=p
  unfold loopF at p
  cases e:srcL l i vh with
  | none=>rw [e] at p;exact p.elim
  | some o =>
   have e0:=e
   unfold srcL at e
   cases el:lsOf vh l with
   | none=>rw [el] at e;cases e
   | some xs =>
    rw [el] at e
    have ei:xs[i]?=o:=by simpa using e
    obtain ⟨vs,rr,rd⟩:=ls_rd S el la
    cases o with
    | none =>
     rw [e0] at p
     refine .inl ⟨⟨vs,.inl rd,?_⟩,PostS.next p S st⟩
     rw [rr.length];exact List.getElem?_eq_none_iff.mp ei
    | some x =>
     obtain ⟨w,hw,rw'⟩:=rr.get ei
     refine .inr ⟨⟨vs,w,.inl rd,hw⟩,_,fun σ' H' q=>⟨m,Nat.lt_succ_self _,q⟩,fun y H' hy=>?_⟩
     obtain ⟨rfl,hy⟩:=hy
     have ey:=hy vs (.inl rd)
     rw [hw] at ey;cases ey
     exact loop_turn la st S rw' e0 p0
theorem loop_noexc {src:Src} {g:FG} {body:FSt}:∀ (n i:Nat) (τ:Tau) (h:VH) (x:XV) (h':VH),loopF src g body n i τ h ≠ .exc x h'
 | 0,_,_,_,_,_=>fun e=>by cases e
 | n + 1,i,τ,h,x,h'=>fun e=>by
  unfold loopF at e
  cases e0:src i h with
  | none=>rw [e0] at e;cases e
  | some o =>
   rw [e0] at e
   cases o with
   | none=>cases e
   | some y =>
    dsimp only at e
    cases e1:g y τ h with
    | next τ1 h1 =>
     rw [e1] at e
     dsimp only at e
     cases e2:body τ1 h1 with
     | next τ2 h2=>rw [e2] at e;exact loop_noexc n (i + 1) τ2 h2 x h' e
     | cont τ2 h2=>rw [e2] at e;exact loop_noexc n (i + 1) τ2 h2 x h' e
     | brk τ2 h2=>rw [e2] at e;cases e
     | ret v h2=>rw [e2] at e;cases e
     | exc y h2=>rw [e2] at e;cases e
     | bad=>rw [e2] at e;cases e
    | brk _ _=>rw [e1] at e;cases e
    | cont _ _=>rw [e1] at e;cases e
    | ret _ _=>rw [e1] at e;cases e
    | exc _ _=>rw [e1] at e;cases e
    | bad=>rw [e1] at e;cases e
theorem PostS.nox {ρ:List Addr} {H:Hp} {f:Fl} {D:Ends} (hf:∀ x h,f ≠ .exc x h) (p:PostS tb X ρ H f D):PostS tb X.nox ρ H f D:=by
 cases f with
 | exc x h=>exact absurd rfl (hf x h)
 | next _ _=>exact p
 | brk _ _=>exact p
 | cont _ _=>exact p
 | ret _ _=>exact p
 | bad=>exact p
theorem s_forL {tg iter:Expr} {body:List Stmt} {fi:FE} {g:FG} {f:FSt} (hc:X.calm=true) (hi:EOk tb X.nox iter fi) (hg:GOk tb X.nox tg g) (hb:BOk tb X.nox body f) (hs:∀ x,foldedSetIterable iter X.env x=pure x:=by intro _;rfl) :
  SOk tb X (.For tg iter body [] pos) (sForL fi g f):=by
 refine PS.nox' (PS.mono (ps_for (X:=X.nox) PassesOwn.never hc (pi_list hi) hg hb hs) fun D σ H ⟨ρ,vh,τ,st,S,p⟩=>?_)
 refine ⟨ρ,vh,τ,st,S,?_⟩
 unfold sForL at p
 cases e:fi τ vh with
 | ok v h1 =>
  rw [e] at p
  cases v with
  | ref l =>
   intro ρ1 H1 w p1 k1 S1 r1
   obtain ⟨a,la,rfl⟩:=r1
   obtain ⟨o,ho,oo⟩:=S1.at la
   have p2:=PostS.nox (loop_noexc _ _ _ _) p
   have el:∃ xs,lsOf h1 l=some xs:=by
    cases q:lsOf h1 l with
    | some xs=>exact ⟨xs,rfl⟩
    | none =>
     dsimp only at p
     unfold loopF at p
     have z:srcL l 0 h1=none:=by unfold srcL;rw [q]
     rw [z] at p;exact p.elim
   obtain ⟨xs,el⟩:=el
   obtain ⟨vs,rr,rd⟩:=ls_rd S1 el la
   exact ⟨a,rfl,⟨vs,.inl rd⟩,loop_list la (st.mono p1 k1) S1 (PostS.fwd p1 k1 p2)⟩
  | _=>exact p.elim
 | exc _ _=>rw [e] at p;exact p.elim
 | bad=>rw [e] at p;exact p.elim
end
end FS
namespace FS
open PySem PySem.Spec PyProof.Rows L2 FX
structure TurnX (Y:Cx) (tg:Expr) (J:It) (fp:List Addr) (it:Addr) (tn:Nat->Heap->Prop):Prop where
 mem:it ∈ fp
 obj:∀ i h,tn i h->∀ b ∈ fp,∃ o,h.get? b=some o/\∀ v,o.data ≠ .cell v
 keep:∀ i h h',tn i h->(∀ b ∈ fp,∀ o,h.get? b=some o->h'.get? b=some o)->tn i h'
 item:∀ (i:Nat) (pins:List (Addr × Obj)) (s:Shared) (σ:St) (H:Hp) (E:Value->Shared->Prop),Inv Y pins σ H s->Hd Y.A.handled H->(∀ b ∈ fp,FpOk Y pins H b)->tn i s.heap->J.go i H ->
  wpAny (model Y.prog Y.w) Y.A (pyNext (.ref it)) (fun r s1=>∃ u,r=some u /\
   wpAny (model Y.prog Y.w) Y.A (letOwnedTupleGo tg (.ref it) u) (fun _ s2=>∃ x H',Inv Y pins σ H' s2/\RelV x u/\J.yld i H x H'/\tn (i + 1) s2.heap/\∀ b ∈ fp,H' b=none) E s1) E s
 done:∀ (i:Nat) (pins:List (Addr × Obj)) (s:Shared) (σ:St) (H:Hp) (E:Value->Shared->Prop),Inv Y pins σ H s->Hd Y.A.handled H->(∀ b ∈ fp,FpOk Y pins H b)->tn i s.heap->J.stop i H ->
  wpAny (model Y.prog Y.w) Y.A (pyNext (.ref it)) (fun r s1=>r=none/\Inv Y pins σ H s1) E s
 self:∀ (i:Nat) (s:Shared) (Q:Value->Shared->Prop) (E:Value->Shared->Prop),tn i s.heap->Q (.ref it) s->wpAny (model Y.prog Y.w) Y.A (pyIter (.ref it)) Q E s
theorem TurnX.of {Y:Cx} {tg:Expr} {J:It} {fp:List Addr} {it:Addr} {tn:Nat->Heap->Prop} (T:Turn Y.prog Y.w Y.K tg J fp it tn) (hc:Y.calm=true):TurnX Y tg J fp it tn :=
 ⟨T.mem,T.obj,T.keep,fun i pins s σ H E I _=>T.item Y rfl rfl rfl hc i pins s σ H E I,fun i pins s σ H E I _=>T.done Y rfl rfl rfl hc i pins s σ H E I,fun i s Q E=>T.self Y.A i s Q E⟩
theorem hd_calm {P:Program} {w:World} {A:Around} {H:Hp} {h:Heap} (hd:Hd A.handled H) (ok:HOk P w H h):Calm A h:=by
 rcases hd with hd | ⟨e,C,dO,h1,h2⟩
 ·exact .inl hd
 ·obtain ⟨⟨oe,fs,g,_,_,d,c,_⟩,_⟩:=ok e _ h2
  exact .inr ⟨_,h1,e,oe,fs,rfl,g,d,c⟩
theorem turnX_list (Y:Cx) (tg:Expr) (a it:Addr):TurnX Y tg (Itl Y.K a) [it] it (fun i h=>h.IsListIter it a i) where
 mem:=by simp
 obj:=(turn_list (P:=Y.prog) (w:=Y.w) (K:=Y.K) (tg:=tg) a it).obj
 keep:=(turn_list (P:=Y.prog) (w:=Y.w) (K:=Y.K) (tg:=tg) a it).keep
 item:=fun i pins s σ H E I _ hf st hg=>by
  obtain ⟨xs,x,hq,hx⟩:=hg
  obtain ⟨its,rv,p,hz⟩:=I.list hq
  obtain ⟨u,hu,ru⟩:=rv.get hx
  obtain ⟨f0,f1,f2,f3,f4,f5⟩:=hf it (by simp)
  refine wpAny_pyNext_list_item st p.isList (x:=u) (by simpa using hu) fun h' st' sb=>?_
  have I1:Inv Y pins σ H { s with heap:=h' }:=I.turned (t':=s.toks) (fun b o hb e=>(sb.2 b hb).trans e) f0 f1 f3 f4 f5
  obtain ⟨o,e,c,d⟩:=id st'
  exact ⟨u,rfl,go_of (s:={ s with heap:=h' }) e c d (by decide) ⟨x,H,I1,ru,⟨rfl,fun ys hy=>by rw [I.list_inj hy hq];exact hx⟩,st',fun b hb=>(hf b hb).1⟩⟩
 done:=fun i pins s σ H E I hd hf st hg=>by
  obtain ⟨xs,hq,hx⟩:=hg
  obtain ⟨its,rv,p,hz⟩:=I.list hq
  obtain ⟨f0,f1,f2,f3,f4,f5⟩:=hf it (by simp)
  have hl:=rv.length
  refine next_list_end (hd_calm hd I.hok) st p.isList (by simp;omega) (fun v hv z=>?_) fun h' eb=>⟨rfl,I.turned (t':=s.toks) (fun b o hb e=>eb b o hb e) f0 f1 f3 f4 f5⟩
  rcases hd with hd | ⟨e,C,dO,h1,h2⟩
  ·rw [hd] at hv;cases hv
  ·rw [h1] at hv;cases hv;cases z;rw [f0] at h2;cases h2
 self:=fun _ _ _ _ st h=>wpAny_pyIter_listiter st h
def cxC (X:Cx) (Ny:List Str) (scope:Scope) (cl:List (Str × Addr)) (s3:Shared) (H3:Hp) (ex:List Addr):Cx :=
 { X with N:=Ny,s₀:=s3,H₀:=H3,env:=compEnvC scope cl s3.heap.objs.size X.env,outer:=X.stack,ex:=ex,fn:=fun _=>false,pn:=[],xe:=fun _ _=>False }
def AllC (cells:List (Str × Addr)):List (Str × Addr)->Prop
 | []=>True
 | p :: r=>cells.lookup p.1=some p.2/\AllC cells r
theorem AllC.look {cells:List (Str × Addr)}:∀ {cl:List (Str × Addr)} {x:Str} {c:Addr},AllC cells cl->cl.lookup x=some c->cells.lookup x=some c
 | [],_,_,_,e=>by cases e
 | p :: r,x,c,h,e=>by
  rw [List.lookup_cons] at e
  cases hb:x == p.1 with
  | true=>rw [hb] at e;cases e;rw [beq_iff_eq.mp hb];exact h.1
  | false=>rw [hb] at e;exact AllC.look h.2 e
def compF (src:Src) (g:FG) (ft:FT) (fe:FE) (acc:Nat):Nat->Nat->Tau->VH->Out Unit
 | 0,_,_,_=>.bad
 | n + 1,i,τ,h=>match src i h with
  | none=>.bad
  | some none=>.ok () h
  | some (some x)=>match g x τ h with
   | .next τ1 h1=>match ft τ1 h1 with
    | .ok true h2=>match fe τ1 h2 with
     | .ok v h3=>match h3[acc]? with
      | some (.lst ys)=>if ys.length < big then compF src g ft fe acc n (i + 1) τ1 (h3.set acc (.lst (ys++[v]))) else .bad
      | _=>.bad
     | _=>.bad
    | .ok false h2=>compF src g ft fe acc n (i + 1) τ1 h2
    | _=>.bad
   | _=>.bad
def startC (m:Nat) (pr:List Nat) (τ:Tau):Tau:=List.replicate m none++pr.map fun j=>(τ[j]?).getD none
structure SrcJ (tb:Tb) (src:Src) (J:It) (l:Nat) (a:Addr):Prop where
 stop:∀ i ρ vh H,ρ[l]?=some a->Sim tb ρ vh H->src i vh=some none->J.stop i H
 go:∀ i ρ vh H x,ρ[l]?=some a->Sim tb ρ vh H->src i vh=some (some x)->J.go i H/\∀ w H',J.yld i H w H'->Keep ρ ρ H H'/\Sim tb ρ vh H'/\Rep ρ H' x w
theorem srcJ_list {tb:Tb} {K:PySem.W.Frag} {l:Nat} {a:Addr}:SrcJ tb (srcL l) (Itl K a) l a where
 stop:=fun i ρ vh H la S e=>by
  unfold srcL at e
  cases el:lsOf vh l with
  | none=>rw [el] at e;cases e
  | some xs =>
   rw [el] at e
   have ei:xs[i]?=none:=by simpa using e
   obtain ⟨vs,rr,rd⟩:=ls_rd S el la
   exact ⟨vs,.inl rd,by rw [rr.length];exact List.getElem?_eq_none_iff.mp ei⟩
 go:=fun i ρ vh H x la S e=>by
  unfold srcL at e
  cases el:lsOf vh l with
  | none=>rw [el] at e;cases e
  | some xs =>
   rw [el] at e
   have ei:xs[i]?=some x:=by simpa using e
   obtain ⟨vs,rr,rd⟩:=ls_rd S el la
   obtain ⟨w,hw,rw'⟩:=rr.get ei
   refine ⟨⟨vs,w,.inl rd,hw⟩,fun y H' hy=>?_⟩
   obtain ⟨rfl,hy⟩:=hy
   have ey:=hy vs (.inl rd)
   rw [hw] at ey;cases ey
   exact ⟨Keep.refl,S,rw'⟩
theorem srcJ_range {tb:Tb} {lo:Int} {n:Nat} {l:Nat} {a:Addr}:SrcJ tb (srcR lo n) (Itr lo n) l a where
 stop:=fun i ρ vh H la S e=>by
  unfold srcR at e
  by_cases hi:i < n
  ·simp [hi] at e
  ·exact Nat.le_of_not_lt hi
 go:=fun i ρ vh H x la S e=>by
  unfold srcR at e
  by_cases hi:i < n
  ·simp [hi] at e
   subst e
   exact ⟨hi,fun w H' hy=>by obtain ⟨rfl,rfl⟩:=hy;exact ⟨Keep.refl,S,rfl⟩⟩
  ·simp [hi] at e
def CapOk (X:Cx) (sc:Scope) (cl:List (Str × Addr)):List Nat->List Str->Prop
 | [],[]=>True
 | j :: pr,x :: xs=>X.N[j]?=some x/\(X.env.scope.names.lookup x=some .cell\/X.env.scope.names.lookup x=some .free)/\((cl.lookup x).isSome=true/\sc.names.lookup x=some .free)/\CapOk X sc cl pr xs
 | _,_=>False
theorem CapOk.get {X:Cx} {sc:Scope} {cl:List (Str × Addr)}:∀ {pr:List Nat} {xs:List Str} {k:Nat} {x:Str},CapOk X sc cl pr xs->xs[k]?=some x ->
  ∃ j,pr[k]?=some j/\X.N[j]?=some x/\(X.env.scope.names.lookup x=some .cell\/X.env.scope.names.lookup x=some .free)/\(cl.lookup x).isSome=true/\sc.names.lookup x=some .free
 | [],[],_,_,_,e=>by simp at e
 | [],_ :: _,_,_,h,_=>h.elim
 | _ :: _,[],_,_,h,_=>h.elim
 | j :: pr,y :: xs,0,x,h,e=>by simp at e;subst e;exact ⟨j,rfl,h.1,h.2.1,h.2.2.1.1,h.2.2.1.2⟩
 | j :: pr,y :: xs,k + 1,x,h,e=>by
  obtain ⟨j',h1,h2⟩:=CapOk.get h.2.2.2 (k:=k) (x:=x) (by simpa using e)
  exact ⟨j',by simpa using h1,h2⟩
theorem CapOk.len {X:Cx} {sc:Scope} {cl:List (Str × Addr)}:∀ {pr:List Nat} {xs:List Str},CapOk X sc cl pr xs->pr.length=xs.length
 | [],[],_=>rfl
 | [],_ :: _,h=>h.elim
 | _ :: _,[],h=>h.elim
 | _ :: _,_ :: _,h=>by rw [List.length_cons,List.length_cons,CapOk.len h.2.2.2]
theorem look_relabel {env:Env}:∀ {names:List (Str × NameKind)} {x:Str} {k:NameKind},(names.map fun (n,k)=>if (k == NameKind.free && env.scope.kind == .function && env.kindOf n == some .cell) then (n,NameKind.cell) else (n,k)).lookup x=some k ->
  ∃ k0,names.lookup x=some k0/\(k=k0\/(k0=.free/\k=.cell))
 | [],_,_,h=>by simp at h
 | (n,k0) :: r,x,k,h=>by
  rw [List.map_cons,List.lookup_cons] at h
  rw [List.lookup_cons]
  by_cases hc:(k0 == NameKind.free && env.scope.kind == .function && env.kindOf n == some .cell)=true
  ·simp only [hc,if_true] at h
   cases hb:x == n with
   | true =>
    rw [hb] at h
    refine ⟨k0,by rw [],.inr ⟨?_,by simpa using h.symm⟩⟩
    simp only [Bool.and_eq_true,beq_iff_eq] at hc
    exact hc.1.1
   | false=>rw [hb] at h;exact look_relabel h
  ·simp only [hc,if_false,Bool.false_eq_true] at h
   cases hb:x == n with
   | true=>rw [hb] at h;exact ⟨k0,by rw [],.inl (by simpa using h.symm)⟩
   | false=>rw [hb] at h;exact look_relabel h
section
variable {tb:Tb} {X:Cx} {pins:List (Addr × Obj)} {σ:St} {H:Hp} {s:Shared}
theorem inv_comp {scope:Scope} {cl:List (Str × Addr)} {own xs:List Str} {pr:List Nat} {fp:List Addr} {h4:Heap} {t4:Nat} {m0:Str->Option Value} {ob:Obj} (I:Inv X pins σ H s) (hk:scope.kind=.function)
  (hcell:∀ y ∈ scope.names,y.2 ≠ .cell) (hfree:∀ y ∈ scope.names,y.2=.free->y.1 ∈ xs) (hcl:AllC X.env.cells cl) (cap:CapOk X scope cl pr xs) (hfp:∀ b ∈ fp,FpOk X pins H b)
  (hfe:∀ b ∈ fp,∃ o,s.heap.get? b=some o) (hns:h4.Ns s.heap.objs.size m0) (hsb:Heap.SameBut s.heap.objs.size (s.heap.push ob) h4) :
  Inv (cxC X (own++xs) scope cl s H fp) [] (List.replicate own.length none++pr.map fun j=>(σ[j]?).getD none) H { s with heap:=h4,toks:=t4 }:=by
 have kp:∀ b o,s.heap.get? b=some o->h4.get? b=some o:=fun b o e=>(hsb.2 b (Nat.ne_of_lt (Heap.lt_size e))).trans (Heap.get?_push_of_some _ e)
 have has:∀ x,((relabel scope X.env).names.lookup x=some .cell\/(relabel scope X.env).names.lookup x=some .free)->∃ c,cl.lookup x=some c:=fun x hx=>by
  have fr:scope.names.lookup x=some .free:=by
   rcases hx with hx | hx
   ·obtain ⟨k0,h1,h2⟩:=look_relabel hx
    rcases h2 with h2 | h2
    ·subst h2;exact absurd rfl (hcell _ (PySem.mem_of_lookup h1))
    ·rw [h1,h2.1]
   ·obtain ⟨k0,h1,h2⟩:=look_relabel hx
    rcases h2 with h2 | h2
    ·subst h2;exact h1
    ·exact absurd h2.2 (by decide)
  obtain ⟨k,hx2⟩:=List.getElem?_of_mem (hfree _ (PySem.mem_of_lookup fr) rfl)
  obtain ⟨_,_,_,_,q,_⟩:=cap.get hx2
  exact Option.isSome_iff_exists.mp q
 refine ⟨⟨I.ok.mod,hk,I.ok.glob,I.ok.blt,Nat.le_refl _,fun x y c h1 h2=>I.ok.inj x y c (hcl.look h1) (hcl.look h2),has,fun _ _ z _=>absurd z Bool.false_ne_true,I.ok.hd,I.ok.frames,.inl rfl,fun b hb=>⟨?_,fun x c e=>?_⟩,I.bs,Nat.le_trans I.ok.bsz I.sz,fun b o e hb=>?_,fun b hb hz=>?_,I.stack,I.stkFree⟩,
  rfl,I.bare,Un.kept kp,⟨m0,hns,fun i x v h1 h2 h3=>?_⟩,fun x c e=>?_,I.hok.fresh (Nat.le_refl _),fun x c e=>I.freeC x c (hcl.look e),fun p hp=>absurd hp (by simp [cxC]),HOk.kept I.hok kp,?_⟩
 ·obtain ⟨o,ho⟩:=hfe b hb
  exact Nat.ne_of_lt (Heap.lt_size ho)
 ·exact (hfp b hb).2.2.2.2.1 x c (hcl.look e)
 ·obtain ⟨_,_,_,h4',_⟩:=hfp b hb
  have q:=I.ok.bs b o e
  rcases h4' with z | z
  ·exact I.ok.noex b o e z
  ·exact absurd (Nat.lt_of_lt_of_le (Heap.lt_size q.1) z) (Nat.lt_irrefl _)
 ·rcases List.mem_cons.mp (I.stkSub b hz) with z | z
  ·exact (hfp b hb).2.1 z
  ·exact (hfp b hb).2.2.1 z
 ·have h1':(own++xs)[i]?=some x:=h1
  by_cases hi:i < own.length
  ·rw [List.getElem?_append_left (by simpa using hi),List.getElem?_replicate,if_pos hi] at h2;cases h2
  ·rw [List.getElem?_append_right (by simpa using hi)] at h2
   rw [List.getElem?_append_right (by omega)] at h1'
   obtain ⟨j,q1,q2,q3,q4,q5⟩:=cap.get h1'
   rw [List.length_replicate,List.getElem?_map,q1] at h2
   have h2':(σ[j]?).getD none=some v:=by simpa using h2
   cases e:σ[j]? with
   | none=>rw [e] at h2';cases h2'
   | some o =>
    rw [e] at h2'
    have h2'':o=some v:=h2'
    subst h2''
    obtain ⟨mX,hnX,hlX⟩:=I.loc
    obtain ⟨u,ru,lk⟩:=hlX j x v q2 e (.inr q3)
    refine ⟨u,ru,.inr ⟨?_,?_⟩⟩
    ·have hv:Vis (relabel scope X.env) x:=h3
     rcases hv with hv | hv
     ·exfalso
      obtain ⟨k0,z1,z2⟩:=look_relabel hv
      have k0l:k0=.local:=by
       rcases z2 with z2 | z2
       ·exact z2.symm
       ·exact absurd z2.2 (by decide)
      subst k0l
      rw [q5] at z1;cases z1
     ·exact hv
    ·obtain ⟨c,hc⟩:=Option.isSome_iff_exists.mp q4
     refine ⟨c,hc,?_⟩
     rcases lk with ⟨kl,_⟩ | ⟨_,c',e',z'⟩
     ·exfalso
      have kl':X.env.scope.names.lookup x=some .local:=kl
      rcases q3 with q3 | q3 <;> (rw [q3] at kl';cases kl')
     ·rw [hcl.look hc] at e';cases e'
      obtain ⟨oc,g1,g2⟩:=z'
      exact ⟨oc,kp _ _ g1,g2⟩
 ·obtain ⟨v,oc,g1,g2⟩:=I.cell x c (hcl.look e)
  exact ⟨v,oc,kp _ _ g1,g2⟩
 ·show _=(own++xs).length
  rw [List.length_append,List.length_append,List.length_replicate,List.length_map,cap.len]
def IfsOk (tb:Tb) (Y:Cx) (ifs:List Expr) (ft:FT):Prop:=∀ (pins:List (Addr × Obj)) (s:Shared) (σ:St) (H:Hp) (Q:Bool->Hp->Prop),Inv Y pins σ H s->tOfT tb Y ft σ H Q ->
 wpAny (model Y.prog Y.w) Y.A (forIn ifs true fun c r=>if r=true then do let ok <- isTrue c Y.env (eval c Y.env);pure (ForInStep.yield ok) else pure (ForInStep.yield r)) (TP Y pins σ Q) Y.xe s
def tYes:FT:=fun _=>M.ret true
theorem ifs_nil {Y:Cx}:IfsOk tb Y [] tYes:=fun pins s σ H Q I ⟨ρ,vh,τ,st,S,p⟩=>wpAny_tests_nil ⟨H,I,PostT.here p S⟩
theorem codeAny_compLoop_testsP {prog : Program} {w : World} {A : Around} {R : Result->Shared->Prop} {s : Shared} {elt target iter : Expr} {ifs : List Expr} {scope : Scope} {pos : Pos} {it acc : Value} {env : Env} (I : Nat->Shared->Prop)
    (turn : ∀ n s, I n s->wpAny (model prog w) A (pyNext it) (fun r s₁ => match r with
      | none => R (.ok .next) s₁
      | some v => wpAny (model prog w) A (letOwnedTupleGo target it v) (fun _ s₁' => wpAny (model prog w) A (assign target env v) (fun _ s₂ =>
          wpAny (model prog w) A (forIn ifs true fun c r => if r = true then do let ok <- isTrue c env (eval c env); pure (ForInStep.yield ok) else pure (ForInStep.yield r)) (fun ok s₃ =>
            if ok = true then wpAny (model prog w) A (eval elt env) (fun x s₄ =>
              wpAny (model prog w) A (call (.builtin "list.append") [acc, x]) (fun _ s₅ => ∃ m, m < n/\I m s₅) (notedBy (model prog w) A env fun e s' => R (.error e) s') s₄) (notedBy (model prog w) A env fun e s' => R (.error e) s') s₃
            else ∃ m, m < n/\I m s₃) (notedBy (model prog w) A env fun e s' => R (.error e) s') s₂) (notedBy (model prog w) A env fun e s' => R (.error e) s') s₁') (notedBy (model prog w) A env fun e s' => R (.error e) s') s₁) (notedBy (model prog w) A env fun e s' => R (.error e) s') s)
    (n : Nat) (h : I n s) : codeAny (model prog w) A (.compLoop (.ListComp elt [⟨target, iter, ifs, 0⟩] scope pos) 0 it acc env) R s := by
  refine codeAny_loop rfl I (fun n s hI => ?_) n h
  show wpAny _ A ((compTurn (.ListComp elt [⟨target, iter, ifs, 0⟩] scope pos) 0 it acc env).onRaise (fun x => do noteFrame x env; theTreesLotGoes x)) _ _ s
  refine wpAny_noted ?_
  rw [compTurn_list]
  refine wpAny_bind (wpAny_standAt (wpAny_bind (wpAny_mono (turn n s hI) (fun r s₁ h₁ => ?_) fun _ _ h' => h')))
  cases r with
  | none => exact wpAny_pure h₁
  | some v =>
    refine wpAny_bind (wpAny_mono h₁ (fun _ s₁' h₁' => ?_) fun _ _ h' => h')
    refine wpAny_bind (wpAny_mono h₁' (fun _ s₂ h₂ => wpAny_bind (wpAny_mono h₂ (fun ok s₃ h₃ => ?_) fun _ _ h' => h')) fun _ _ h' => h')
    cases ok with
    | false => exact wpAny_pure ⟨rfl, h₃⟩
    | true =>
      exact wpAny_bind (wpAny_bind (wpAny_mono h₃ (fun x s₄ h₄ => wpAny_bind (wpAny_mono h₄ (fun _ s₅ h₅ => wpAny_pure (wpAny_pure ⟨rfl, h₅⟩)) fun _ _ h' => h')) fun _ _ h' => h'))
theorem comp_loop {Y:Cx} {elt tg iter:Expr} {ifs:List Expr} {scope:Scope} {cpos:Pos} {J:It} {fp:List Addr} {it D:Addr} {tn:Nat->Heap->Prop} {src:Src} {l acc:Nat} {a:Addr} {g:FG} {ft:FT} {fe:FE} {R:Result->Shared->Prop}
  {vE:VH} {H0:Hp} {ρ0:List Addr} {s0:Shared} (hxe:Y.xe=fun _ _=>False)
  (T:TurnX Y tg J fp it tn) (SJ:SrcJ tb src J l a) (hg:GOk tb Y tg g) (ht:IfsOk tb Y ifs ft) (he:EOk tb Y elt fe)
  (st0:∀ {H':Hp},(∀ b ∈ fp,H' b=none)->∀ b ∈ fp,FpOk Y [] H' b)
  (fin:∀ s' σ' H' ρ',Inv Y [] σ' H' s'->ρ0<+:ρ'->Keep ρ0 ρ' H0 H'->ρ'[acc]?=some D->Sim tb ρ' vE H'->R (.ok .next) s') :
  ∀ n i σ H ρ vh τ,Inv Y [] σ H s0->tn i s0.heap->(∀ b ∈ fp,H b=none)->ρ0<+:ρ->ρ[l]?=some a->ρ[acc]?=some D->Keep ρ0 ρ H0 H->StRel Y.A.handled ρ H τ σ->Sim tb ρ vh H->compF src g ft fe acc n i τ vh=.ok () vE ->
  codeAny (model Y.prog Y.w) Y.A (.compLoop (.ListComp elt [⟨tg,iter,ifs,0⟩] scope cpos) 0 (.ref it) (.ref D) Y.env) R s0:=by
 intro n i σ H ρ vh τ I tn0 fr0 p0 la lD k0 st S e
 have noE:∀ {α:Type} {t:Sem α} {Q:α->Shared->Prop} {E:Value->Shared->Prop} {s:Shared},wpAny (model Y.prog Y.w) Y.A t Q Y.xe s->wpAny (model Y.prog Y.w) Y.A t Q E s:=fun h=>wpAny_mono h (fun _ _ x=>x) fun _ _ z=>by rw [hxe] at z;exact z.elim
 refine codeAny_compLoop_testsP (fun n s=>∃ i σ H ρ vh τ,Inv Y [] σ H s/\tn i s.heap/\(∀ b ∈ fp,H b=none)/\ρ0<+:ρ/\ρ[l]?=some a/\ρ[acc]?=some D/\Keep ρ0 ρ H0 H/\StRel Y.A.handled ρ H τ σ/\Sim tb ρ vh H/\compF src g ft fe acc n i τ vh=.ok () vE) ?_ n ⟨i,σ,H,ρ,vh,τ,I,tn0,fr0,p0,la,lD,k0,st,S,e⟩
 rintro n s ⟨i,σ,H,ρ,vh,τ,I,tni,fr,p0,la,lD,k0,st,S,e⟩
 cases n with
 | zero=>simp [compF] at e
 | succ n =>
  unfold compF at e
  cases e0:src i vh with
  | none=>rw [e0] at e;cases e
  | some o =>
   rw [e0] at e
   cases o with
   | none =>
    cases e
    refine wpAny_mono (T.done i [] s σ H (fun _ _=>False) I st.hd (st0 fr) tni (SJ.stop i ρ _ H la S e0)) (fun r s1 q=>?_) fun _ _ z=>z.elim
    obtain ⟨rfl,I1⟩:=q
    exact fin s1 σ H ρ I1 p0 k0 lD S
   | some x =>
    dsimp only at e
    obtain ⟨go,yl⟩:=SJ.go i ρ vh H x la S e0
    refine wpAny_mono (T.item i [] s σ H (fun _ _=>False) I st.hd (st0 fr) tni go) (fun r s1 q=>?_) fun _ _ z=>z.elim
    obtain ⟨u,rfl,q⟩:=q
    refine wpAny_mono q (fun _ s2 q2=>?_) fun _ _ z=>z.elim
    obtain ⟨w,H',I2,ru,hy,tn2,fr2⟩:=q2
    obtain ⟨kY,SY,rw'⟩:=yl w H' hy
    replace st:=st.mono List.prefix_rfl kY
    replace k0:=k0.trans kY
    replace S:=SY
    have I2p:=I2.pinned (st0 fr2) (T.obj _ _ tn2)
    cases e1:g x τ vh with
    | next τ1 h1 =>
     rw [e1] at e
     dsimp only at e
     refine noE (thn (hg _ s2 σ H' w u (fun σ3 H3=>∃ ρ3,ρ<+:ρ3/\Keep ρ ρ3 H' H3/\Sim tb ρ3 h1 H3/\StRel Y.A.handled ρ3 H3 τ1 σ3) I2p ru ⟨ρ,vh,τ,x,st,S,rw',by rw [e1];exact fun ρ3 H3 σ3 p3 k3 S3 st3=>⟨ρ3,p3,k3,S3,st3⟩⟩) fun _ s3 q3=>?_)
     obtain ⟨σ3,H3,I3,ρ3,p3,k3,S3,st3⟩:=q3
     cases e2:ft τ1 h1 with
     | ok b h2 =>
      rw [e2] at e
      refine noE (thn (ht _ s3 σ3 H3 (fun b' H4=>b'=b/\∃ ρ4,ρ3<+:ρ4/\Keep ρ3 ρ4 H3 H4/\Sim tb ρ4 h2 H4) I3 ⟨ρ3,h1,τ1,st3,S3,by rw [e2];exact fun ρ4 H4 p4 k4 S4=>⟨rfl,ρ4,p4,k4,S4⟩⟩) fun b' s4 q4=>?_)
      obtain ⟨H4,I4,rfl,ρ4,p4,k4,S4⟩:=q4
      -- what stays of the walk's own objects
      have back:∀ {σ7:St} {H7:Hp} {s7:Shared},Inv Y ([]++pinsAt fp s2.heap) σ7 H7 s7->Inv Y [] σ7 H7 s7/\tn (i + 1) s7.heap/\∀ b ∈ fp,H7 b=none:=fun {σ7 H7 s7} I7=>by
       refine ⟨I7.unpinned,T.keep _ _ _ tn2 fun b hb o eo=>(I7.pin (b,o) (List.mem_append_right _ (List.mem_append_right _ (mem_pinsAt hb eo)))).1,fun b hb=>?_⟩
       obtain ⟨o,eo,d⟩:=T.obj _ _ tn2 b hb
       exact (I7.pin (b,o) (List.mem_append_right _ (List.mem_append_right _ (mem_pinsAt hb eo)))).2.1
      cases b' with
      | false =>
       rw [if_neg Bool.false_ne_true]
       obtain ⟨J1,J2,J3⟩:=back I4
       exact ⟨n,Nat.lt_succ_self _,i + 1,σ3,H4,ρ4,h2,τ1,J1,J2,J3,p0.trans (p3.trans p4),pre_get (p3.trans p4) la,pre_get (p3.trans p4) lD,k0.trans (k3.trans k4),st3.mono p4 k4,S4,e⟩
      | true =>
       rw [if_pos rfl]
       dsimp only at e
       cases e3:fe τ1 h2 with
       | ok v h3 =>
        rw [e3] at e
        dsimp only at e
        refine noE (thn (he _ s4 σ3 H4 (fun w' H5=>∃ ρ5,ρ4<+:ρ5/\Keep ρ4 ρ5 H4 H5/\Sim tb ρ5 h3 H5/\Rep ρ5 H5 v w') I4 ⟨ρ4,h2,τ1,st3.mono p4 k4,S4,by rw [e3];exact fun ρ5 H5 w' p5 k5 S5 r5=>⟨ρ5,p5,k5,S5,r5⟩⟩) fun u' s5 q5=>?_)
        obtain ⟨w',H5,I5,rv',ρ5,p5,k5,S5,r5⟩:=q5
        have lD5:=pre_get (p3.trans (p4.trans p5)) lD
        cases e4:h3[acc]? with
        | none=>rw [e4] at e;cases e
        | some ob =>
         rw [e4] at e
         cases ob with
         | lst ys =>
          dsimp only at e
          by_cases hz:ys.length < big
          ·rw [if_pos hz] at e
           obtain ⟨vs,hD,rvs⟩:=sim_lst S5 lD5 e4
           refine noE (thn (mt_append _ s5 σ3 H5 (.ref D) [w'] (.ref D) [u'] (fun _ H6=>H6=upd H5 D (.lst (vs++[w']))) I5 rfl (.cons rv' .nil) ⟨D,vs,w',rfl,rfl,hD,by rw [rvs.length];exact Nat.lt_of_lt_of_le hz big_le,rfl⟩) fun _ s6 q6=>?_)
           obtain ⟨_,H6,I6,_,rfl⟩:=q6
           obtain ⟨J1,J2,J3⟩:=back I6
           have kD:Keep ρ5 ρ5 H5 (upd H5 D (.lst (vs++[w']))):=Keep.put' S5 (List.mem_of_getElem? lD5) hD
           exact ⟨n,Nat.lt_succ_self _,i + 1,σ3,_,ρ5,h3.set acc (.lst (ys++[v])),τ1,J1,J2,J3,p0.trans (p3.trans (p4.trans p5)),pre_get (p3.trans (p4.trans p5)) la,lD5,k0.trans (k3.trans (k4.trans (k5.trans kD))),
            (st3.mono p4 k4).mono p5 (k5.trans kD),S5.set lD5 ⟨_,upd_same,(Reps.append (ys:=[v]) (ws:=[w']) rvs ⟨w',[],rfl,r5,rfl⟩).mono List.prefix_rfl kD⟩,e⟩
          ·rw [if_neg hz] at e;cases e
         | _=>cases e
       | exc _ _=>rw [e3] at e;cases e
       | bad=>rw [e3] at e;cases e
     | exc _ _=>rw [e2] at e;cases e
     | bad=>rw [e2] at e;cases e
    | brk _ _=>rw [e1] at e;cases e
    | cont _ _=>rw [e1] at e;cases e
    | ret _ _=>rw [e1] at e;cases e
    | exc _ _=>rw [e1] at e;cases e
    | bad=>rw [e1] at e;cases e
theorem inv_back {scope:Scope} {cl:List (Str × Addr)} {Ny:List Str} {fp:List Addr} {σ':St} {H':Hp} {s':Shared} {h':Heap} (I:Inv X pins σ H s) (hfp:∀ b ∈ fp,FpOk X pins H b) (J:Inv (cxC X Ny scope cl s H fp) [] σ' H' s')
  (hs:Heap.SameBut s.heap.objs.size s'.heap h'):Inv X pins σ H' { s' with heap:=h' }:=by
 have u:Un (frs X.stack) fp H H' s.heap s'.heap:=J.base
 have ne:∀ b o,s.heap.get? b=some o->b ≠ s.heap.objs.size:=fun b o e=>Nat.ne_of_lt (Heap.lt_size e)
 have fC:H' s.heap.objs.size=none:=J.free
 refine I.call' (s':={ s' with heap:=h' }) (ch:=fp) J.os ⟨fun b o e n h1 h2=>(hs.2 b (ne b o e)).trans (u.keep b o e n h1 h2),fun b o e n h1 h2=>?_,u.free,fun b o e h1=>?_,u.tups,u.frzs,u.tbls⟩ (HOk.tracked J.hok fun c v w hc q=>(hs.2 c fun z=>by rw [z,fC] at hc;cases hc).trans q) J.bare fun b hb=>?_
 ·obtain ⟨sl,q⟩:=u.slot b o e n h1 h2
  exact ⟨sl,(hs.2 b (ne b o e)).trans q⟩
 ·obtain ⟨o',q⟩:=u.there b o e h1
  exact ⟨o',(hs.2 b (ne b o e)).trans q⟩
 ·obtain ⟨_,f1,_,f3,f4,f5⟩:=hfp b hb
  exact ⟨f3,f1,f4,f5⟩
def fCompL (m:Nat) (pr:List Nat) (fi:FE) (g:FG) (ft:FT) (fe:FE):FE:=fun τ=>M.bind (fi τ) fun v=>match v with
 | .ref l=>fun h=>match compF (srcL l) g ft fe h.length (lenL h l + 1) 0 (startC m pr τ) (h++[.lst []]) with
  | .ok _ h'=>.ok (.ref h.length) h'
  | _=>.bad
 | _=>M.bad
theorem startC_rel {ρ:List Addr} {H:Hp} {τ:Tau} {σ:St} {hv:Option Value} {pr:List Nat} (m:Nat) (st:StRel hv ρ H τ σ):StRel hv ρ H (startC m pr τ) (List.replicate m none++pr.map fun j=>(σ[j]?).getD none):=by
 refine ⟨st.hd,by simp [startC],fun i x e=>?_⟩
 unfold startC at e
 by_cases hi:i < m
 ·rw [List.getElem?_append_left (by simpa using hi),List.getElem?_replicate,if_pos hi] at e;cases e
 ·rw [List.getElem?_append_right (by simpa using hi),List.getElem?_map] at e
  rw [List.getElem?_append_right (by simpa using hi),List.getElem?_map]
  rw [List.length_replicate] at e ⊢
  cases ep:pr[i - m]? with
  | none=>rw [ep] at e;cases e
  | some j =>
   rw [ep] at e
   have e':(τ[j]?).getD none=some x:=by simpa using e
   cases et:τ[j]? with
   | none=>rw [et] at e';cases e'
   | some o =>
    rw [et] at e'
    have:o=some x:=e'
    subst this
    obtain ⟨v,h1,h2⟩:=st.get j x et
    exact ⟨v,by simp [h1],h2⟩
abbrev InBlock (X:Cx) (Ny:List Str) (scope:Scope) (cl:List (Str × Addr)) (f:Cx->Prop):Prop:=∀ (s3:Shared) (H3:Hp) (ex:List Addr),f (cxC X Ny scope cl s3 H3 ex)
theorem comp_core {elt iter tg:Expr} {cpos:Pos} {ifs:List Expr} {scope:Scope} {cl:List (Str × Addr)} {own xs:List Str} {pr:List Nat} {g:FG} {ft:FT} {fe:FE} {src:Src} {n l:Nat} {J:It} {fp:List Addr} {it:Addr} {tn:Nat->Heap->Prop}
  {ρ:List Addr} {vh vE:VH} {τ:Tau} {Q:VK} {E:Value->Shared->Prop}
  (hcl:AllC X.env.cells cl) (cap:CapOk X scope cl pr xs)
  (hg:InBlock X (own++xs) scope cl fun Y=>GOk tb Y tg g) (ht:InBlock X (own++xs) scope cl fun Y=>IfsOk tb Y ifs ft) (he:InBlock X (own++xs) scope cl fun Y=>EOk tb Y elt fe)
  (hk:scope.kind=.function) (hcell:∀ y ∈ scope.names,y.2 ≠ .cell) (hfree:∀ y ∈ scope.names,y.2=.free->y.1 ∈ xs)
  (I:Inv X pins σ H s) (st:StRel X.A.handled ρ H τ σ) (S:Sim tb ρ vh H) (hfp:∀ b ∈ fp,FpOk X pins H b) (hfe:∀ b ∈ fp,∃ o,s.heap.get? b=some o) (tn0:tn 0 s.heap)
  (T:∀ s3:Shared,TurnX (cxC X (own++xs) scope cl s3 (upd H s.heap.objs.size (.lst [])) fp) tg J fp it tn) (la:∀ D,∃ a,(ρ++[D])[l]?=some a/\SrcJ tb src J l a)
  (e:compF src g ft fe vh.length n 0 (startC own.length pr τ) (vh++[.lst []])=.ok () vE) (hQ:∀ ρ' H' w',ρ<+:ρ'->Keep ρ ρ' H H'->Sim tb ρ' vE H'->Rep ρ' H' (.ref vh.length) w'->Q w' H') :
  wpAny (model X.prog X.w) X.A (newList []) (fun acc s₃=>wpAny (model X.prog X.w) X.A (newFunctionEnv scope X.env.globals cl [] X.env.qual none .none (some X.env)) (fun cenv s₄ =>
    codeAny (model X.prog X.w) X.A (.compStart (.ListComp elt [⟨tg,iter,ifs,0⟩] scope cpos) 0 (.ref it) acc { cenv with scope:=relabel scope X.env }) (compPost (model X.prog X.w) X.A E none (EP X pins σ Q) acc cenv.locals) s₄) E s₃) E s:=by
 unfold newList
 refine wpAny_newObj_type ?_ (by size_fits)
 have hf:H s.heap.objs.size=none:=I.hok.fresh (Nat.le_refl _)
 have I3:=I.laid (a:=s.heap.objs.size) (o:=.lst []) (t':=s.toks) (h':=s.heap.push { cls:=.type "list",data:=.seq #[] }) (fun b o e=>Heap.get?_push_of_some _ e) (Nat.le_refl _) ⟨by simp,[],0,.nil,Heap.get?_push_size _ rfl⟩
 have pf:ρ<+:ρ++[s.heap.objs.size]:=List.prefix_append _ _
 have kf:Keep ρ (ρ++[s.heap.objs.size]) H (upd H s.heap.objs.size (.lst [])):=Keep.push hf
 have S3:Sim tb (ρ++[s.heap.objs.size]) (vh++[.lst []]) (upd H s.heap.objs.size (.lst [])):=S.push (o:=.lst []) (u:=.lst []) hf ⟨[],upd_same,rfl⟩
 have hne:∀ b ∈ fp,b ≠ s.heap.objs.size:=fun b hb z=>by
  obtain ⟨o,ho⟩:=hfe b hb
  exact absurd (Heap.lt_size ho) (by rw [z];exact Nat.lt_irrefl _)
 have fr3:∀ b ∈ fp,(upd H s.heap.objs.size (.lst [])) b=none:=fun b hb=>by rw [upd_ne (hne b hb)];exact (hfp b hb).1
 have hfp3:∀ b ∈ fp,FpOk X pins (upd H s.heap.objs.size (.lst [])) b:=fun b hb=>⟨fr3 b hb,(hfp b hb).2⟩
 have hfe3:∀ b ∈ fp,∃ o,(s.heap.push { cls:=.type "list",data:=.seq #[] }).get? b=some o:=fun b hb=>by
  obtain ⟨o,ho⟩:=hfe b hb
  exact ⟨o,Heap.get?_push_of_some _ ho⟩
 generalize hS:({ s with heap:=s.heap.push { cls:=.type "list",data:=.seq #[] },toks:=s.toks }:Shared)=s3 at *
 have hh3:s3.heap=s.heap.push { cls:=.type "list",data:=.seq #[] }:=by rw [<- hS]
 refine wpAny_newFunctionEnv hcell (fun _ h=>absurd h (by simp)) (fun h4 hns hsb=>?_) hk
 rw [<- hh3] at hfe3
 have J0:=inv_comp (own:=own) (t4:=s3.toks + ([]:List (Str × Value)).length) I3 hk hcell hfree hcl cap hfp3 hfe3 hns hsb
 have T0:=T s3
 have kp4:∀ b o,s3.heap.get? b=some o->h4.get? b=some o:=fun b o e=>(hsb.2 b (Nat.ne_of_lt (Heap.lt_size e))).trans (Heap.get?_push_of_some _ e)
 have tn4:tn 0 h4:=T0.keep 0 s.heap h4 tn0 fun b hb o ho=>kp4 b o (by rw [hh3];exact Heap.get?_push_of_some _ ho)
 obtain ⟨a,la,SJ⟩:=la s.heap.objs.size
 have st0:∀ {H':Hp},(∀ b ∈ fp,H' b=none)->∀ b ∈ fp,FpOk (cxC X (own++xs) scope cl s3 (upd H s.heap.objs.size (.lst [])) fp) [] H' b:=fun {H'} hn b hb=>by
  obtain ⟨f0,f1,f2,f3,f4,f5⟩:=hfp3 b hb
  obtain ⟨o,ho⟩:=hfe3 b hb
  refine ⟨hn b hb,Nat.ne_of_lt (Heap.lt_size ho),fun z=>?_,.inl hb,fun y c e=>f4 y c (hcl.look e),fun p hp=>absurd hp (by simp [cxC])⟩
  rcases List.mem_cons.mp (I3.stkSub b z) with z | z
  ·exact f1 z
  ·exact f2 z
 have loop:codeAny (model X.prog X.w) X.A (.compLoop (.ListComp elt [⟨tg,iter,ifs,0⟩] scope cpos) 0 (.ref it) (.ref s.heap.objs.size) (compEnvC scope cl s3.heap.objs.size X.env)) (compPost (model X.prog X.w) X.A E none (EP X pins σ Q) (.ref s.heap.objs.size) s3.heap.objs.size) { s3 with heap:=h4,toks:=s3.toks + ([]:List (Str × Value)).length }:=by
  refine comp_loop (Y:=cxC X (own++xs) scope cl s3 (upd H s.heap.objs.size (.lst [])) fp) (vE:=vE) (H0:=upd H s.heap.objs.size (.lst [])) (ρ0:=ρ++[s.heap.objs.size]) rfl T0 SJ (hg _ _ _) (ht _ _ _) (he _ _ _) (fun h=>st0 h) ?_ n 0 _ _ _ _ _ J0 tn4 fr3 List.prefix_rfl la ?_ Keep.refl (startC_rel own.length (st.mono pf kf)) S3 e
  ·intro s' σ' H' ρ' J1 p1 k1 lD S'
   obtain ⟨m,hm,_⟩:=J1.loc
   refine ⟨m,hm,fun h' hs=>?_⟩
   refine ⟨.ref s.heap.objs.size,H',inv_back I3 hfp3 J1 hs,rfl,hQ ρ' H' _ (pf.trans p1) (kf.trans k1) S' ⟨_,lD,rfl⟩⟩
  ·rw [<- S.len];simp
 exact codeAny_compStart_list loop (T0.self 0 _ _ _ tn4 loop)
theorem e_compL {elt iter:Expr} {x:Str} {px cpos:Pos} {ifs:List Expr} {scope:Scope} {cl:List (Str × Addr)} {own xs:List Str} {pr:List Nat} {fi:FE} {g:FG} {ft:FT} {fe:FE}
  (hclos:closureFor scope X.env=pure cl) (hcl:AllC X.env.cells cl) (cap:CapOk X scope cl pr xs) (hi:EOk tb X iter fi)
  (hg:InBlock X (own++xs) scope cl fun Y=>GOk tb Y (.Name x px) g) (ht:InBlock X (own++xs) scope cl fun Y=>IfsOk tb Y ifs ft) (he:InBlock X (own++xs) scope cl fun Y=>EOk tb Y elt fe)
  (hk:scope.kind=.function:=by rfl) (hcell:∀ y ∈ scope.names,y.2 ≠ .cell:=by decide) (hfree:∀ y ∈ scope.names,y.2=.free->y.1 ∈ xs:=by decide)
  (hnames:∀ x ∈ scope.names,x.2=.local->scope.names.lookup x.1=some .local:=by decide) (hs:∀ x,foldedSetIterable iter X.env x=pure x:=by intro _;rfl) :
  EOk tb X (.ListComp elt [⟨.Name x px,iter,ifs,0⟩] scope cpos) (fCompL own.length pr fi g ft fe):=by
 intro pins s σ H Q I ⟨ρ,vh,τ,st,S,p⟩
 rw [eval_ListComp]
 refine wpAny_comprehension_free (use:=none) rfl hs hclos hk hnames (thn (hi pins s σ H (fun w H1=>∃ ρ1 vh1 l a,ρ<+:ρ1/\Keep ρ ρ1 H H1/\Sim tb ρ1 vh1 H1/\w=.ref a/\ρ1[l]?=some a/\(∃ ys,lsOf vh1 l=some ys) /\
  ∃ vE,compF (srcL l) g ft fe vh1.length (lenL vh1 l + 1) 0 (startC own.length pr τ) (vh1++[.lst []])=.ok () vE/\∀ ρ' H' w',ρ1<+:ρ'->Keep ρ1 ρ' H1 H'->Sim tb ρ' vE H'->Rep ρ' H' (.ref vh1.length) w'->Q w' H') I ⟨ρ,vh,τ,st,S,seqEE p fun vh1 ρ1 H1 v1 w1 p1 k1 S1 r1 q1=>?_⟩) fun v s1 ⟨w,H1,I1,rv,q1⟩=>?_)
 ·cases v1 with
  | ref l =>
   obtain ⟨a,la,rfl⟩:=r1
   dsimp only at q1
   cases e:compF (srcL l) g ft fe vh1.length (lenL vh1 l + 1) 0 (startC own.length pr τ) (vh1++[.lst []]) with
   | ok z vE =>
    rw [e] at q1
    refine ⟨ρ1,vh1,l,a,p1,k1,S1,rfl,la,?_,vE,e,q1⟩
    cases q:lsOf vh1 l with
    | some ys=>exact ⟨ys,rfl⟩
    | none =>
     exfalso
     have hl:l < vh1.length:=by rw [<- S1.len];exact (List.getElem?_eq_some_iff.mp la).1
     have z:srcL l 0 (vh1++[.lst []])=none:=by
      unfold srcL lsOf
      unfold lsOf at q
      rw [List.getElem?_append_left hl,q]
     unfold compF at e
     rw [z] at e;cases e
   | exc _ _=>rw [e] at q1;exact q1.elim
   | bad=>rw [e] at q1;exact q1.elim
  | _=>exact q1.elim
 ·obtain ⟨ρ1,vh1,l,a,p1,k1,S1,rfl,la,⟨ys,el⟩,vE,e,hQ⟩:=q1
  cases rv
  obtain ⟨vs,its,_,_,hL,_⟩:=ls_get S1 I1.hok el la
  refine wpAny_pyIter_list hL ?_
  refine comp_core (fp:=[s1.heap.objs.size]) (J:=Itl X.K a) (tn:=fun i h=>h.IsListIter s1.heap.objs.size a i) hcl cap hg ht he hk hcell hfree (I1.kept (t':=s1.toks) fun b o e=>Heap.get?_push_of_some _ e) (st.mono p1 k1) S1 (fun b hb=>?_) (fun b hb=>?_) ⟨_,Heap.get?_push_size _ rfl,rfl,rfl⟩ (fun s3=>turnX_list (cxC X (own++xs) scope cl s3 _ _) _ a _) (fun D=>⟨a,?_,srcJ_list⟩) e hQ
  ·have e:b=s1.heap.objs.size:=by simpa using hb
   subst e
   exact I1.fpOk (Nat.le_refl _) (I1.hok.fresh (Nat.le_refl _))
  ·have e:b=s1.heap.objs.size:=by simpa using hb
   subst e
   exact ⟨_,Heap.get?_push_size _ rfl⟩
  ·exact pre_get (List.prefix_append _ _) la
end
end FS
namespace FS
open PySem PySem.Spec PyProof.Rows L2 FX
def asc (x:Str):Bool:=x.cps.all (· < 128)
def srcS (x:Str):Src:=fun i _=>some ((x.cps[i]?).map fun c=>.str ⟨#[c]⟩)
def Its (x:Str):It where
 go:=fun i _=>i < x.cps.size
 yld:=fun i H v H'=>H'=H/\∃ c,x.cps[i]?=some c/\v=.str ⟨#[c]⟩
 stop:=fun i _=>x.cps.size<=i
theorem turn_ascii {P:Program} {w:World} {K:PySem.W.Frag} {tg:Expr} (it:Addr) (x:Str) (t:Tok):Turn P w K tg (Its x) [it] it (fun i h=>h.IsStrIter it "str_ascii_iterator" x t i) where
 mem:=by simp
 obj:=fun i h st b hb=>by
  have e:b=it:=by simpa using hb
  subst e
  obtain ⟨o,ho,_,hd⟩:=st
  exact ⟨o,ho,fun v z=>by rw [hd] at z;cases z⟩
 keep:=fun i h h' st k=>let ⟨o,ho,r⟩:=st;⟨o,k it (by simp) o ho,r⟩
 item:=by
  intro X hP hw hK hc i pins s σ H E I hf st hg
  subst hP hw hK
  obtain ⟨f0,f1,f2,f3,f4,f5⟩:=hf it (by simp)
  have hi:i < x.cps.size:=hg
  refine wpAny_pyNext_ascii_item st (c:=x.cps[i]) (by simp [hi]) fun h' st' sb=>?_
  have I1:Inv X pins σ H { s with heap:=h',toks:=s.toks + 1 }:=I.turned (fun b o hb e=>(sb.2 b hb).trans e) f0 f1 f3 f4 f5
  obtain ⟨o,e,c,d⟩:=id st'
  exact ⟨_,rfl,go_of (s:={ s with heap:=h',toks:=s.toks + 1 }) e c d (by decide) ⟨.str ⟨#[x.cps[i]]⟩,H,I1,⟨_,rfl⟩,⟨rfl,_,by simp [hi],rfl⟩,st',fun b hb=>(hf b hb).1⟩⟩
 done:=by
  intro X hP hw hK hc i pins s σ H E I hf st hg
  subst hP hw hK
  obtain ⟨f0,f1,f2,f3,f4,f5⟩:=hf it (by simp)
  have hi:x.cps.size<=i:=hg
  exact wpAny_pyNext_ascii_end (I.ok.hd hc) st (by simp [hi]) fun h' eb=>⟨rfl,I.turned (t':=s.toks) (fun b o hb e=>eb b o hb e) f0 f1 f3 f4 f5⟩
 self:=fun _ _ _ _ _ st h=>wpAny_pyIter_striter_ascii st h
theorem srcJ_str {tb:Tb} {x:Str} {l:Nat} {a:Addr}:SrcJ tb (srcS x) (Its x) l a where
 stop:=fun i ρ vh H la S e=>by
  unfold srcS at e
  by_cases hi:i < x.cps.size
  ·simp [hi] at e
  ·exact Nat.le_of_not_lt hi
 go:=fun i ρ vh H y la S e=>by
  unfold srcS at e
  by_cases hi:i < x.cps.size
  ·simp [hi] at e
   subst e
   refine ⟨hi,fun w H' hy=>?_⟩
   obtain ⟨rfl,c,hc,rfl⟩:=hy
   refine ⟨Keep.refl,S,?_⟩
   have:c=x.cps[i]:=by simp [hi] at hc;exact hc.symm
   subst this;rfl
  ·simp [hi] at e
section
variable {tb:Tb} {X:Cx} {pins:List (Addr × Obj)} {σ:St} {H:Hp} {s:Shared}
def fCompS (m:Nat) (pr:List Nat) (fi:FE) (g:FG) (ft:FT) (fe:FE):FE:=fun τ=>M.bind (fi τ) fun v=>match v with
 | .str x=>fun h=>if asc x=true then match compF (srcS x) g ft fe h.length (x.cps.size + 1) 0 (startC m pr τ) (h++[.lst []]) with
   | .ok _ h'=>.ok (.ref h.length) h'
   | _=>.bad
  else .bad
 | _=>M.bad
theorem e_compS {elt iter:Expr} {x:Str} {px cpos:Pos} {ifs:List Expr} {scope:Scope} {cl:List (Str × Addr)} {own xs:List Str} {pr:List Nat} {fi:FE} {g:FG} {ft:FT} {fe:FE} (hc:X.calm=true)
  (hclos:closureFor scope X.env=pure cl) (hcl:AllC X.env.cells cl) (cap:CapOk X scope cl pr xs) (hi:EOk tb X iter fi)
  (hg:InBlock X (own++xs) scope cl fun Y=>GOk tb Y (.Name x px) g) (ht:InBlock X (own++xs) scope cl fun Y=>IfsOk tb Y ifs ft) (he:InBlock X (own++xs) scope cl fun Y=>EOk tb Y elt fe)
  (hk:scope.kind=.function:=by rfl) (hcell:∀ y ∈ scope.names,y.2 ≠ .cell:=by decide) (hfree:∀ y ∈ scope.names,y.2=.free->y.1 ∈ xs:=by decide)
  (hnames:∀ x ∈ scope.names,x.2=.local->scope.names.lookup x.1=some .local:=by decide) (hs:∀ x,foldedSetIterable iter X.env x=pure x:=by intro _;rfl) :
  EOk tb X (.ListComp elt [⟨.Name x px,iter,ifs,0⟩] scope cpos) (fCompS own.length pr fi g ft fe):=by
 intro pins s σ H Q I ⟨ρ,vh,τ,st,S,p⟩
 rw [eval_ListComp]
 refine wpAny_comprehension_free (use:=none) rfl hs hclos hk hnames (thn (hi pins s σ H (fun w H1=>∃ ρ1 vh1 y,ρ<+:ρ1/\Keep ρ ρ1 H H1/\Sim tb ρ1 vh1 H1/\w=.str y/\asc y=true /\
  ∃ vE,compF (srcS y) g ft fe vh1.length (y.cps.size + 1) 0 (startC own.length pr τ) (vh1++[.lst []])=.ok () vE/\∀ ρ' H' w',ρ1<+:ρ'->Keep ρ1 ρ' H1 H'->Sim tb ρ' vE H'->Rep ρ' H' (.ref vh1.length) w'->Q w' H') I ⟨ρ,vh,τ,st,S,seqEE p fun vh1 ρ1 H1 v1 w1 p1 k1 S1 r1 q1=>?_⟩) fun v s1 ⟨w,H1,I1,rv,q1⟩=>?_)
 ·cases v1 with
  | str y =>
   dsimp only at q1
   by_cases ha:asc y=true
   ·rw [if_pos ha] at q1
    cases e:compF (srcS y) g ft fe vh1.length (y.cps.size + 1) 0 (startC own.length pr τ) (vh1++[.lst []]) with
    | ok z vE =>
     rw [e] at q1
     exact ⟨ρ1,vh1,y,p1,k1,S1,r1,ha,vE,e,q1⟩
    | exc _ _=>rw [e] at q1;exact q1.elim
    | bad=>rw [e] at q1;exact q1.elim
   ·rw [if_neg ha] at q1;exact q1.elim
  | _=>exact q1.elim
 ·obtain ⟨ρ1,vh1,y,p1,k1,S1,rfl,ha,vE,e,hQ⟩:=q1
  obtain ⟨t,rfl⟩:=rv
  refine wpAny_pyIter_ascii ha ?_
  refine comp_core (fp:=[s1.heap.objs.size]) (J:=Its y) (l:=ρ1.length) (tn:=fun i h=>h.IsStrIter s1.heap.objs.size "str_ascii_iterator" y t i) hcl cap hg ht he hk hcell hfree (I1.kept (t':=s1.toks) fun b o e=>Heap.get?_push_of_some _ e) (st.mono p1 k1) S1 (fun b hb=>?_) (fun b hb=>?_) ⟨_,Heap.get?_push_size _ rfl,rfl,rfl⟩ (fun s3=>TurnX.of (Y:=cxC X (own++xs) scope cl s3 _ _) (turn_ascii _ y t) hc) (fun D=>⟨D,by simp,srcJ_str⟩) e hQ
  ·have e:b=s1.heap.objs.size:=by simpa using hb
   subst e
   exact I1.fpOk (Nat.le_refl _) (I1.hok.fresh (Nat.le_refl _))
  ·have e:b=s1.heap.objs.size:=by simpa using hb
   subst e
   exact ⟨_,Heap.get?_push_size _ rfl⟩
def fCompR (m:Nat) (pr:List Nat) (fn:FA) (g:FG) (ft:FT) (fe:FE):FE:=fun τ=>M.bind (fn τ) fun v=>match v with
 | [.int j]=>fun h=>if -(2 ^ 62)<=j/\j < 2 ^ 62 then match compF (srcR 0 j.toNat) g ft fe h.length (j.toNat + 1) 0 (startC m pr τ) (h++[.lst []]) with
   | .ok _ h'=>.ok (.ref h.length) h'
   | _=>.bad
  else .bad
 | _=>M.bad
theorem e_compR {elt a:Expr} {x:Str} {p1' p2' px cpos:Pos} {ifs:List Expr} {scope:Scope} {cl:List (Str × Addr)} {own xs:List Str} {pr:List Nat} {fn:FA} {g:FG} {ft:FT} {fe:FE} (hc:X.calm=true) (hgl:Gl X "range") (hm:X.mg "range" = none)
  (hclos:closureFor scope X.env=pure cl) (hcl:AllC X.env.cells cl) (cap:CapOk X scope cl pr xs) (hi:AOk tb X [a] fn)
  (hg:InBlock X (own++xs) scope cl fun Y=>GOk tb Y (.Name x px) g) (ht:InBlock X (own++xs) scope cl fun Y=>IfsOk tb Y ifs ft) (he:InBlock X (own++xs) scope cl fun Y=>EOk tb Y elt fe)
  (hk:scope.kind=.function:=by rfl) (hcell:∀ y ∈ scope.names,y.2 ≠ .cell:=by decide) (hfree:∀ y ∈ scope.names,y.2=.free->y.1 ∈ xs:=by decide)
  (hnames:∀ x ∈ scope.names,x.2=.local->scope.names.lookup x.1=some .local:=by decide) (hs:∀ x,foldedSetIterable (.Call (.Name "range" p1') [a] [] p2') X.env x=pure x:=by intro _;rfl) (hst:starEach [a] X.env=[(false,eval a X.env)]:=by rfl) :
  EOk tb X (.ListComp elt [⟨.Name x px,.Call (.Name "range" p1') [a] [] p2',ifs,0⟩] scope cpos) (fCompR own.length pr fn g ft fe):=by
 intro pins s σ H Q I ⟨ρ,vh,τ,st,S,p⟩
 rw [eval_ListComp]
 refine wpAny_comprehension_free (use:=none) rfl hs hclos hk hnames (wpAny_mono (pi_range1 (tg:=.Name x px) hgl hm hi hst pins s σ H (fun J H1=>∃ ρ1 vh1 j,ρ<+:ρ1/\Keep ρ ρ1 H H1/\Sim tb ρ1 vh1 H1/\J=Itr 0 j /\
  ∃ vE,compF (srcR 0 j) g ft fe vh1.length (j + 1) 0 (startC own.length pr τ) (vh1++[.lst []])=.ok () vE/\∀ ρ' H' w',ρ1<+:ρ'->Keep ρ1 ρ' H1 H'->Sim tb ρ' vE H'->Rep ρ' H' (.ref vh1.length) w'->Q w' H') I ⟨ρ,vh,τ,st,S,seqAE p fun vh1 ρ1 H1 v1 w1 p1 k1 S1 r1 q1=>?_⟩) (fun v s1 hv=>wpAny_mono hv (fun itv s2 q2=>?_) fun _ _ z=>z) fun _ _ z=>z)
 ·match v1,r1,q1 with
  | [],_,q1=>exact q1.elim
  | y :: _ :: _,_,q1=>cases y <;> exact q1.elim
  | [y],r1,q1 =>
   obtain ⟨w,ws,rfl,r1,r2⟩:=r1
   cases (show ws=[] from r2)
   cases y with
   | int j =>
    dsimp only at q1
    by_cases ha:-(2 ^ 62)<=j/\j < 2 ^ 62
    ·rw [if_pos ha] at q1
     cases e:compF (srcR 0 j.toNat) g ft fe vh1.length (j.toNat + 1) 0 (startC own.length pr τ) (vh1++[.lst []]) with
     | ok z vE =>
      rw [e] at q1
      exact ⟨j,by rw [show w=_ from r1],ha.1,ha.2,ρ1,vh1,j.toNat,p1,k1,S1,rfl,vE,e,q1⟩
     | exc _ _=>rw [e] at q1;exact q1.elim
     | bad=>rw [e] at q1;exact q1.elim
    ·rw [if_neg ha] at q1;exact q1.elim
   | _=>exact q1.elim
 ·obtain ⟨it,fp,tn,J,H1,rfl,I1,T,tn0,hfp,ρ1,vh1,j,p1,k1,S1,rfl,vE,e,hQ⟩:=q2
  exact comp_core (l:=ρ1.length) hcl cap hg ht he hk hcell hfree I1 (st.mono p1 k1) S1 hfp (fun b hb=>let ⟨o,ho,_⟩:=T.obj 0 _ tn0 b hb;⟨o,ho⟩) tn0 (fun s3=>TurnX.of (Y:=cxC X (own++xs) scope cl s3 _ _) T hc) (fun D=>⟨D,by simp,srcJ_range⟩) e hQ
end
end FS
namespace FS
open PySem PySem.Spec PySem.Calls PyProof.Rows PySem.W
section
variable {prog:Program} {w:World} {A:Around} {E:Value->Shared->Prop} {s:Shared} {K:Frag} {x C:Addr} {ox:Obj} {odo:Option Obj}
theorem bexc_kind:builtinKind "BaseException.__getattribute__" = some .slot:=by decide +kernel
theorem bexc_split:splitId "BaseException.__getattribute__" = some ("BaseException","__getattribute__"):=by decide +kernel
theorem exc_check {nameV:Value} {Q:Unit->Shared->Prop} {M:Model} (X:K.In s.heap) (I:InstAt s.heap x ox C odo) (hm:mroIn K C (.type "BaseException")=some true) (hq:Q () s) :
  wpAny M A (checkBuiltinCall "BaseException.__getattribute__" ⟨[.ref x,nameV],[]⟩) Q E s:=by
 have L0:=I.type (M:=M)
 have L1:=looks_mroIn (M:=M) X hm
 have LI:Looks M s.heap (isInstance (.ref x) (.type "BaseException")) true:=L0.andThen L1
 have ha:=F.args_bexc_ga (.ref x) nameV
 simp only [checkBuiltinCall,bexc_kind,bexc_split]
 refine wpAny_bind (LI.at ?_)
 repeat (first | wp_step)
 exact hq
theorem exc_open {name:Str} {Q:Value->Shared->Prop} {fill:Bool} {nv:Value} (X:K.In s.heap) (I:InstAt s.heap x ox C odo) (hga:findIn K (.ref C) "__getattribute__" = some (some (.builtin "BaseException.__getattribute__"))) (hhk:findIn K (.ref C) "__getattr__" = some none)
  (hm:mroIn K C (.type "BaseException")=some true)
  (h:wpAny (model prog w) A.in1 (Builtin.«object.__getattribute__» ⟨[.ref x,nv],[]⟩) (fun fin s'=>∃ v,fin=.done (.ret v)/\handedIn v=true/\Q v s') (fun _ _=>False) s) :
  wpAny (model prog w) A (getAttrBy (.ref x) nv fill) Q E s:=by
 obtain ⟨hh,g,d,t,os⟩:=s
 have L0:=I.type (M:=model prog w)
 have L1:=looks_findIn (M:=model prog w) X hga
 have L2:=looks_findIn (M:=model prog w) X hhk
 unfold getAttrBy
 refine wpAny_holding (wpAny_bind (L0.at (wpAny_bind (L1.at ?_))))
 show wpAny _ _ (getAttrByItsOwn _ _ _ _ _ _) _ _ _
 unfold getAttrByItsOwn hookBefore
 refine wpAny_bind (L2.at (wpAny_bind (wpAny_attempt (wpAny_holding ?_))))
 show wpAny _ _ (boundAndCalled _ _ _) _ _ _
 unfold boundAndCalled
 rw [PySem.F.attrBase_ValueError.ga.bind (.ref x)]
 refine wpAny_bind (wpAny_pure ?_)
 refine wpAny_call (codeAny_call_builtin PySem.F.attrBase_ValueError.ga.plain F.entry_bexc_ga (exc_check X I hm ?_))
 refine wpAny_mono h (fun fin s' q=>?_) fun _ _ z=>z.elim
 obtain ⟨v,rfl,hv,q⟩:=q
 exact handed_on hv q
theorem exc_class {Q:Option Value->Shared->Prop} (X:K.In s.heap) (I:InstAt s.heap x ox C odo) (hga:findIn K (.ref C) "__getattribute__" = some (some (.builtin "BaseException.__getattribute__"))) (hhk:findIn K (.ref C) "__getattr__" = some none)
  (hm:mroIn K C (.type "BaseException")=some true) (hcl:(clsIn K C).isSome=true) (ha:findIn K (.ref C) "__class__" = some (some (.builtin "object.__class__"))) (hn:specialIn K (.builtin "object.__class__") "__get__" = some (some (.builtin "getset_descriptor.__get__"))) (htk:takesIn K (.builtin "object.__class__")=some true)
  (hmo:mroIn K C (.type "object")=some true) (hq:Q (some (.ref C)) { s with toks:=s.toks + 1 }):wpAny (model prog w) A (getAttr? (.ref x) "__class__") Q E s:=by
 obtain ⟨cd,hcd⟩:=Option.isSome_iff_exists.mp hcl
 have hf:findObj K C odo "__class__" = some (.bind (.builtin "getset_descriptor.__get__") (.builtin "object.__class__")):=by
  unfold findObj
  rw [hcd]
  simp only [Option.bind_some,ha,hn,htk]
 obtain ⟨hh,g,d,t,os⟩:=s
 unfold getAttr? getAttrBy?
 refine wpAny_bind (wpAny_mkText (wpAny_bind (wpAny_attempt (exc_open (name:="__class__") X I hga hhk hm ?_))))
 have L0:=I.type (M:=model prog w)
 have L1:=looks_find (M:=model prog w) X I hf
 unfold Builtin.«object.__getattribute__»
 refine wpAny_bind (wpAny_pure ?_)
 refine wpAny_bind (wpAny_pure ?_)
 refine wpAny_bind (L0.at (wpAny_bind (L1.at ?_)))
 show wpAny _ _ (Builtin.ObjectAttr.bindTo _ _ _ _) _ _ _
 unfold Builtin.ObjectAttr.bindTo
 dsimp only
 refine wpAny_bind (wpAny_holding (wpAny_call (class_get (s:=⟨hh,g,d,t + 1,os⟩) X I hmo ?_)))
 exact wpAny_pure ⟨_,rfl,rfl,wpAny_pure hq⟩
end
end FS
namespace FS
open PySem PySem.Spec PyProof.Rows L2 FX
structure XCls (K:PySem.W.Frag) (C:Addr):Prop where
 ga:PySem.W.findIn K (.ref C) "__getattribute__" = some (some (.builtin "BaseException.__getattribute__"))
 hk:PySem.W.findIn K (.ref C) "__getattr__" = some none
 be:PySem.W.mroIn K C (.type "BaseException")=some true
 cl:(PySem.W.clsIn K C).isSome=true
 ca:PySem.W.findIn K (.ref C) "__class__" = some (some (.builtin "object.__class__"))
 ob:PySem.W.mroIn K C (.type "object")=some true
 gt:PySem.W.specialIn K (.builtin "object.__class__") "__get__" = some (some (.builtin "getset_descriptor.__get__"))
 tk:PySem.W.takesIn K (.builtin "object.__class__")=some true
def IsExcAt (C x:Addr) (h:Heap):Prop:=∃ ox odo,PySem.W.InstAt h x ox C odo
theorem kitx_exc {K:PySem.W.Frag} {C x:Addr} (c:XCls K C):PySem.W.KitX K (.ref x) (.ref C) (IsExcAt C x) where
 ty:=fun _ _ _ ⟨_,_,I⟩=>I.type
 it:=fun M h X _=>by
  obtain ⟨cd,hcd⟩:=Option.isSome_iff_exists.mp c.cl
  unfold PySem.W.clsIn at hcd
  split at hcd
  ·rename_i c' d' cd' sl' ho
   intro A' Q' E' s' k q
   unfold isType loadHead
   exact wpAny_bind (wpAny_loadPart (k _ _ (X _ _ ho)) (wpAny_pure q))
  ·cases hcd
 ne:=fun h tp dd its n sl X htp=>by
  obtain ⟨cd,hcd⟩:=Option.isSome_iff_exists.mp c.cl
  refine Bool.eq_false_iff.mpr fun q=>?_
  have e:C=tp:=Value.ref.inj (beq_iff_eq.mp q)
  subst e
  unfold PySem.W.clsIn at hcd
  split at hcd
  ·rename_i c' d' cd' sl' ho
   have z:=(X _ _ ho).symm.trans htp
   cases z
  ·cases hcd
 ca:=fun X ⟨_,_,I⟩ k=>exc_class X I c.ga c.hk c.be c.cl c.ca c.gt c.tk c.ob k
def tyP (h:VH):PV->Option Value
 | .non=>some (.type "NoneType")
 | .bl _=>some (.type "bool")
 | .int _=>some (.type "int")
 | .str _=>some (.type "str")
 | .tup _=>some (.type "tuple")
 | .ref i=>match h[i]? with
  | some (.lst _)=>some (.type "list")
  | some (.scr _)=>some (.type "list")
  | some (.dct _)=>some (.type "dict")
  | some (.dtp _)=>some (.type "dict")
  | _=>none
 | .exc C _ _=>some (.ref C)
 | _=>none
def clP:PV->Option Value
 | .ty n=>some (.type n)
 | .adr a=>some (.ref a)
 | _=>none
abbrev ITab:=List (Value × Value × Bool)
def gIsi (tab:ITab):FF:=fun xs h=>match xs with
 | [x,c]=>match tyP h x,clP c with
  | some t,some cv=>match tab.find? (fun r=>r.1 == t && r.2.1 == cv) with
   | some r=>.ok (.bl r.2.2) h
   | none=>.bad
  | _,_=>.bad
 | _=>.bad
def TabK (K:PySem.W.Frag) (tab:ITab):Prop:=∀ r ∈ tab,PySem.W.kitOne K r.1 r.2.1=some r.2.2/\∀ C,r.1=.ref C->XCls K C
section
variable {tb:Tb} {X:Cx} {pos p:Pos} {a b c e:Expr} {es:List Expr} {fa fb fc:FE} {fs:FA} {x:Str}
theorem exc_inst {ρ:List Addr} {H:Hp} {C:Addr} {ns:List Str} {xs:List PV} {v:V} {P:Program} {w:World} {h:Heap} (r:Rep ρ H (.exc C ns xs) v) (ok:HOk P w H h):∃ x,v=.ref x/\IsExcAt C x h:=by
 obtain ⟨x,dO,rfl,hx,hd⟩:=r
 obtain ⟨⟨oe,fs,g,c,d,da,_,_⟩,_⟩:=ok x _ hx
 refine ⟨x,rfl,?_⟩
 rcases hd with ⟨rfl,_,_⟩ | ⟨dx,vs,rfl,hd,_,_⟩
 ·refine ⟨oe,none,g,c,?_,?_⟩
  ·unfold PySem.W.notCls;rw [da]
  ·rw [d];trivial
 ·obtain ⟨_,⟨od,_,_,e,_⟩,_⟩:=ok dx _ hd
  refine ⟨oe,some od,g,c,?_,?_⟩
  ·unfold PySem.W.notCls;rw [da]
  ·rw [d];exact e
theorem call_isiF {tab:ITab} (ht:TabK X.K tab):CallR X (.builtin "isinstance") (rcOf tb X (gIsi tab)):=fun pins s σ H xs us Q I rs ⟨σ',ρ,vh,ys,hd,S,r,p⟩=>by
 match ys,r,p with
 | [],_,p=>exact p.elim
 | [_],_,p=>exact p.elim
 | _ :: _ :: _ :: _,_,p=>exact p.elim
 | [y,z],r,p =>
  obtain ⟨v1,ws1,rfl,r1,v2,ws2,rfl,r2,hn⟩:=r
  cases (show ws2=[] from hn)
  obtain ⟨u1,u2,rfl,ru1,ru2⟩:=rs.two
  simp only [gIsi] at p
  cases et:tyP vh y with
  | none=>rw [et] at p;exact p.elim
  | some t =>
   cases ec:clP z with
   | none=>rw [et,ec] at p;exact p.elim
   | some cv =>
    rw [et,ec] at p
    dsimp only at p
    cases ef:tab.find? (fun r=>r.1 == t && r.2.1 == cv) with
    | none=>rw [ef] at p;exact p.elim
    | some rr =>
     rw [ef] at p
     have hm:=List.mem_of_find?_eq_some ef
     have hp:=List.find?_some ef
     rw [Bool.and_eq_true] at hp
     have e1:rr.1=t:=beq_iff_eq.mp hp.1
     have e2:rr.2.1=cv:=beq_iff_eq.mp hp.2
     obtain ⟨k1,k2⟩:=ht rr hm
     rw [e1,e2] at k1
     have ecv:u2=cv:=by
      cases z <;> first | (cases ec;cases r2;exact ru2) | cases ec
     subst ecv
     have fin:∀ tk,EP X pins σ Q (.bool rr.2.2) { s with toks:=tk }:=fun tk=>⟨.bl rr.2.2,H,I.tok _,rfl,Post.here p S rfl⟩
     cases y with
     | non=>cases et;cases r1;exact isinst_ok I ru1 .non k1 fin
     | bl k=>cases et;cases r1;exact isinst_ok I ru1 (.bl k) k1 fin
     | int k=>cases et;cases r1;exact isinst_ok I ru1 (.int k) k1 fin
     | str k=>cases et;cases r1;exact isinst_ok I ru1 (.str k) k1 fin
     | tup ks=>cases et;obtain ⟨a1,vs,rfl,h1,q1⟩:=r1;exact isinst_ok I ru1 (.tup h1) k1 fin
     | ref i =>
      obtain ⟨a1,h1,rfl⟩:=r1
      obtain ⟨o,ho,oo⟩:=S.at h1
      simp only [tyP,ho] at et
      cases o with
      | lst l=>cases et;obtain ⟨vs,hv,_⟩:=oo;exact isinst_ok I ru1 (.lst hv) k1 fin
      | scr l=>cases et;obtain ⟨ob,hv⟩:=oo;exact isinst_ok I ru1 (.frz hv) k1 fin
      | dct l =>
       cases et
       obtain ⟨l',hv,_⟩:=oo
       exact isinst_ok I ru1 (.dK hv) k1 fin
      | dtp l =>
       cases et
       obtain ⟨l',hv,_⟩:=oo
       exact isinst_ok I ru1 (.dT hv) k1 fin
      | st _=>cases et
      | dfz _=>cases et
      | ins _ _=>cases et
     | exc C ns zs =>
      cases et
      obtain ⟨x,rfl,ix⟩:=exc_inst r1 I.hok
      cases (show u1=Value.ref x from ru1)
      exact PySem.W.kia_one (kitx_exc (k2 C e1)) I.kIn ix k1 (fun z=>nomatch z) fin
     | adr _=>cases et
     | ty _=>cases et
theorem e_isi {tab:ITab} (ht:TabK X.K tab) (hg:Gl X "isinstance") (hm:X.mg "isinstance" = none) (ha:AOk tb X (e :: es) fs)
  (he:starEach (e :: es) X.env=(false,eval e X.env) :: starEach es X.env:=by rfl) (hpl:(backTo pos (starEach es X.env)).any (·.1)=false:=by rfl):EOk tb X (.Call (.Name "isinstance" p) (e :: es) [] pos) (fCB (gIsi tab) fs) :=
 e_callB (call_isiF ht) (cb_of _) hg hm (by first | rfl | decide +kernel) ha (by decide) (by decide) he hpl
theorem e_chain {op op':CmpOp} {r r':R2} {g g':G2} (ho:OpR X (compareOp op) r) (h:Op2 tb X r g) (ho':OpR X (compareOp op') r') (h':Op2 tb X r' g') (ha:EOk tb X a fa) (hb:EOk tb X b fb) (hc:EOk tb X c fc)
  (hm:lastMarks [op,op'] [b,c]=false:=by with_unfolding_all rfl):EOk tb X (.Compare a [op,op'] [b,c] pos) (fChain g g' fa fb fc) :=
 PE.mono (pe_chain ho ho' ha hb hc hm) fun σ H Q ⟨ρ,vh,τ,st,S,p⟩ =>
  ⟨ρ,vh,τ,st,S,seqEE p fun vh1 ρ1 H1 v1 w1 p1 k1 S1 r1 q1=>⟨ρ1,vh1,τ,st.mono p1 k1,S1,seqEE q1 fun vh2 ρ2 H2 v2 w2 p2 k2 S2 r2 q2 =>
   h σ ρ2 vh2 H2 v1 v2 w1 w2 _ S2 (r1.mono p2 k2) r2 (seqEE q2 fun vh3 ρ3 H3 v3 w3 p3 k3 S3 r3 q3=>by
    cases v3 with
    | bl k =>
     refine ⟨k,r3,?_⟩
     cases k with
     | true=>exact iteT ⟨ρ3,vh3,τ,((st.mono p1 k1).mono p2 k2).mono p3 k3,S3,seqEE q3 fun vh4 ρ4 H4 v4 w4 p4 k4 S4 r4 q4=>h' σ ρ4 vh4 H4 v2 v4 w2 w4 Q S4 ((r2.mono p3 k3).mono p4 k4) r4 q4⟩
     | false=>exact iteF (Post.here q3 S3 rfl)
    | _=>exact q3.elim)⟩⟩
def inP (x:PV) (xs:List PV):Bool:=xs.any fun y=>feq y x
abbrev GTup:=List (Addr × List PV)
def gIn (gt:GTup):G2:=fun x y=>match y with
 | .str j=>match x with
  | .str i=>M.ret (.bl (!(Builtin.Str.occurrences j i 0 j.length 1).isEmpty))
  | _=>M.bad
 | .tup ys=>if fl x && ys.all fl then M.ret (.bl (inP x ys)) else M.bad
 | .ref l=>fun h=>match lsOf h l with
  | some ys=>if fl x && ys.all fl then .ok (.bl (inP x ys)) h else .bad
  | none=>.bad
 | .adr a=>match gt.lookup a with
  | some ys=>if fl x && ys.all fl then M.ret (.bl (inP x ys)) else M.bad
  | none=>M.bad
 | _=>M.bad
def GtOk (K:PySem.W.Frag) (gt:GTup):Prop:=∀ a xs,gt.lookup a=some xs->∃ vs,(∀ H,SqT K H a vs)/\∀ ρ H,Reps ρ H xs vs
theorem inV_P {ρ:List Addr} {H:Hp} {x:PV} {v:V} (r:Rep ρ H x v) (f:fl x=true):∀ {xs:List PV} {vs:List V},Reps ρ H xs vs->xs.all fl=true->vs.all flatV=true/\inV v vs=inP x xs
 | [],_,h,_=>by rw [show _=[] from h];exact ⟨rfl,rfl⟩
 | y :: ys,_,h,g=>by
  obtain ⟨w,ws,rfl,r1,r2⟩:=h
  rw [List.all_cons,Bool.and_eq_true] at g
  obtain ⟨h1,h2⟩:=inV_P r f r2 g.2
  refine ⟨by rw [List.all_cons,fl_V r1 g.1,h1];rfl,?_⟩
  unfold inV inP at *
  rw [List.any_cons,List.any_cons,feq_V r1 r g.1 f,h2]
theorem in_fin {σ:St} {ρ:List Addr} {vh:VH} {H:Hp} {x:PV} {ys:List PV} {v:V} {vs:List V} {a:Addr} {Q:VK} (S:Sim tb ρ vh H) (r:Rep ρ H x v) (rs:Reps ρ H ys vs) (hq:SqL X.K H a vs\/SqT X.K H a vs)
  (p:Post tb X σ ρ H ((if (fl x && ys.all fl)=true then M.ret (.bl (inP x ys)) else M.bad) vh) Q):rIn X.K false v (.ref a) H Q:=by
 by_cases hf:(fl x && ys.all fl)=true
 ·rw [if_pos hf] at p
  rw [Bool.and_eq_true] at hf
  obtain ⟨h1,h2⟩:=inV_P r hf.1 rs hf.2
  refine ⟨a,vs,rfl,hq,fl_V r hf.1,h1,?_⟩
  rw [h2]
  exact Post.here p S rfl
 ·rw [if_neg hf] at p;exact p.elim
theorem op_inF {gt:GTup} (hgt:GtOk X.K gt):OpR X (compareOp .In) (rOf tb X (gIn gt)):=fun pins s σ H x y v u Q I rx ry ⟨σ',ρ,vh,v1,v2,S,r1,r2,p⟩=>by
 cases v2 with
 | str j=>cases v1 with
  | str i=>exact op_in_str pins s σ H x y v u Q I rx ry ⟨i,j,r1,r2,Post.here p S rfl⟩
  | _=>exact p.elim
 | tup ys =>
  obtain ⟨a1,vs,rfl,h1,q1⟩:=r2
  exact op_in_seq pins s σ H x _ v u Q I rx ry (in_fin S r1 q1 (.inr (SqT.of h1)) p)
 | ref l =>
  obtain ⟨a1,h1,rfl⟩:=r2
  simp only [gIn] at p
  cases ql:lsOf vh l with
  | none=>rw [ql] at p;exact p.elim
  | some ys =>
   rw [ql] at p
   obtain ⟨vs,rr,rd⟩:=ls_rd S ql h1
   refine op_in_seq pins s σ H x _ v u Q I rx ry (in_fin (σ:=σ') (vh:=vh) S r1 rr (.inl (.inl rd)) ?_)
   dsimp only at p
   by_cases hf:(fl v1 && ys.all fl)=true
   ·rw [if_pos hf] at p ⊢;exact p
   ·rw [if_neg hf] at p;exact p.elim
 | adr a =>
  cases (show y=.ref a from r2)
  simp only [gIn] at p
  cases ql:gt.lookup a with
  | none=>rw [ql] at p;exact p.elim
  | some ys =>
   rw [ql] at p
   obtain ⟨vs,h1,h2⟩:=hgt a ys ql
   exact op_in_seq pins s σ H x _ v u Q I rx ry (in_fin S r1 (h2 ρ H) (.inr (h1 H)) p)
 | _=>exact p.elim
end
end FS
namespace FS
open PySem PySem.Spec PyProof.Rows L2 FX
section
variable {tb:Tb} {X:Cx} {pos p p2 apos cpos:Pos} {a b c e o:Expr} {es:List Expr} {fa fb fc fe fo:FE} {fs:FA} {x:Str}
def strCut (x:Str) (lo hi:Option Int):Str:=if ((Builtin.Str.strSliceIndices lo hi 1 x.length).length == x.length)=true then x else ⟨((Builtin.Str.strSliceIndices lo hi 1 x.length).filterMap (x.cps[·]?)).toArray⟩
def cutP (xs:List PV) (lo hi:Option Int):List PV:=(xs.drop (HT.sIx xs.length 0 lo)).take (HT.sIx xs.length xs.length hi - HT.sIx xs.length 0 lo)
def gCut (x:PV) (lo hi:Option Int):M PV:=match x with
 | .str z=>if (strCut z lo hi).length<=big then M.ret (.str (strCut z lo hi)) else M.bad
 | .tup xs=>if HT.sIx xs.length 0 lo=0/\HT.sIx xs.length xs.length hi=xs.length then M.bad else M.ret (.tup (cutP xs lo hi))
 | .ref l=>fun h=>match lsOf h l with
  | some xs=>alloc (.lst (cutP xs lo hi)) h
  | none=>.bad
 | _=>M.bad
def rCut (tb:Tb) (X:Cx):V->Option Int->Option Int->Hp->VK->Prop:=fun w lo hi H Q=>∃ σ ρ vh v,Sim tb ρ vh H/\Rep ρ H v w/\Post tb X σ ρ H (gCut v lo hi vh) Q
theorem Reps.drop {ρ:List Addr} {H:Hp}:∀ {xs:List PV} {vs:List V} (n:Nat),Reps ρ H xs vs->Reps ρ H (xs.drop n) (vs.drop n)
 | [],_,_,h=>by rw [show _=[] from h];simp [Reps]
 | _ :: _,_,0,h=>h
 | _ :: _,_,n + 1,h=>by obtain ⟨v,ws,rfl,_,t⟩:=h;exact Reps.drop n t
theorem Reps.take {ρ:List Addr} {H:Hp}:∀ {xs:List PV} {vs:List V} (n:Nat),Reps ρ H xs vs->Reps ρ H (xs.take n) (vs.take n)
 | [],_,_,h=>by rw [show _=[] from h];simp [Reps]
 | _ :: _,_,0,h=>by simp [Reps]
 | _ :: _,_,n + 1,h=>by obtain ⟨v,ws,rfl,r,t⟩:=h;exact ⟨v,_,rfl,r,Reps.take n t⟩
theorem Reps.cut {ρ:List Addr} {H:Hp} {xs:List PV} {vs:List V} (lo hi:Option Int) (h:Reps ρ H xs vs):Reps ρ H (cutP xs lo hi) (cutV vs lo hi):=by
 unfold cutP cutV
 rw [h.length]
 exact (h.drop _).take _
theorem part_tok {v:Value} {i:Option Int} (h:IsPart v i):∃ l:Option (Int × Tok),v=partValue l/\l.map (·.1)=i:=by
 cases h with
 | none=>exact ⟨none,rfl,rfl⟩
 | int i t=>exact ⟨some (i,t),rfl,rfl⟩
theorem sl_F:SlR X (rCut tb X):=fun pins s σ H x v vl vu lo hi sl Q I rx hs pl pu ⟨σ',ρ,vh,w,S,r,p⟩=>by
 cases w with
 | str z =>
  cases (show x=.str z from r)
  obtain ⟨t,rfl⟩:=(show ∃ t,v=Value.str z t from rx)
  simp only [gCut] at p
  by_cases hz:(strCut z lo hi).length<=big
  ·rw [if_pos hz] at p
   refine ⟨"str",_,F.slot_str_getitem.lookup,typeIs_str _ _ _,?_⟩
   obtain ⟨l,rfl,rfl⟩:=part_tok pl
   obtain ⟨u,rfl,rfl⟩:=part_tok pu
   refine wpAny_getItem_str_slice (l:=l) (u:=u) (st:=none) hs rfl ?_
   have q:=Post.here p S (w:=.str _) rfl
   unfold sliceMade slicePicked
   unfold strCut at q hz
   simp only [Option.map_none,Option.getD_none,show ((1:Int) == 1)=true from rfl,Bool.true_and]
   by_cases hw:((Builtin.Str.strSliceIndices (l.map (·.1)) (u.map (·.1)) 1 z.length).length == z.length)=true
   ·rw [if_pos hw] at q ⊢
    exact ⟨.str z,H,I,⟨t,rfl⟩,q⟩
   ·rw [if_neg hw] at q hz ⊢
    exact ⟨Nat.le_trans hz big_le,.str _,H,I.tok _,⟨_,rfl⟩,q⟩
  ·rw [if_neg hz] at p;exact p.elim
 | tup xs =>
  obtain ⟨a1,vs,rfl,h1,q1⟩:=r
  simp only [gCut] at p
  by_cases hz:HT.sIx xs.length 0 lo=0/\HT.sIx xs.length xs.length hi=xs.length
  ·rw [if_pos hz] at p;exact p.elim
  ·rw [if_neg hz] at p
   exact sl_tup pins s σ H _ v vl vu lo hi sl Q I rx hs pl pu ⟨a1,vs,rfl,SqT.of h1,by rw [q1.length];exact hz,fun p' hp=>Post.tup p S (q1.cut lo hi) hp⟩
 | ref l =>
  obtain ⟨a1,h1,rfl⟩:=r
  simp only [gCut] at p
  cases ql:lsOf vh l with
  | none=>rw [ql] at p;exact p.elim
  | some xs =>
   rw [ql] at p
   obtain ⟨vs,rr,rd⟩:=ls_rd S ql h1
   exact sl_list pins s σ H _ v vl vu lo hi sl Q I rx hs pl pu ⟨a1,vs,rfl,.inl rd,fun p' hp=>Post.lst p S (rr.cut lo hi) hp⟩
 | _=>exact p.elim
abbrev FO:=Tau->M (Option Int)
def PostO (tb:Tb) (X:Cx) (σ:St) (ρ:List Addr) (H:Hp) (o:Out (Option Int)) (Q:Option Int->Hp->Prop):Prop :=
 match o with
 | .ok b vh=>∀ ρ' H',ρ<+:ρ'->Keep ρ ρ' H H'->Sim tb ρ' vh H'->Q b H'
 | .exc x vh=>∀ ev s,XPost tb X σ ρ H x vh ev s->X.xe ev s
 | .bad=>False
def OOk (tb:Tb) (X:Cx) (e:Option Expr) (f:FO):Prop:=PO X e fun σ H Q=>∃ ρ vh τ,StRel X.A.handled ρ H τ σ/\Sim tb ρ vh H/\PostO tb X σ ρ H (f τ vh) Q
def oNone:FO:=fun _=>M.ret none
def oSome (fe:FE):FO:=fun τ=>M.bind (fe τ) fun v=>match v with
 | .int i=>M.ret (some i)
 | _=>M.bad
theorem o_none:OOk tb X none oNone:=fun pins s σ H Q I ⟨ρ,vh,τ,st,S,p⟩=>po_none pins s σ H Q I (p ρ H List.prefix_rfl Keep.refl S)
theorem o_some (he:EOk tb X e fe):OOk tb X (some e) (oSome fe):=fun pins s σ H Q I ⟨ρ,vh,τ,st,S,p⟩=>by
 refine po_some he pins s σ H Q I ⟨ρ,vh,τ,st,S,?_⟩
 unfold oSome M.bind at p
 cases ee:fe τ vh with
 | ok v vh1 =>
  rw [ee] at p
  intro ρ1 H1 w p1 k1 S1 r1
  cases v with
  | int i=>exact ⟨i,r1,p ρ1 H1 p1 k1 S1⟩
  | _=>exact p.elim
 | exc _ _=>rw [ee] at p;exact p
 | bad=>rw [ee] at p;exact p
theorem seqOE {σ:St} {ρ:List Addr} {H:Hp} {vh:VH} {m:M (Option Int)} {k:Option Int->M PV} {Q:VK} {R:Option Int->Hp->Prop} (p:Post tb X σ ρ H (M.bind m k vh) Q)
  (hR:∀ vh' ρ' H' v,ρ<+:ρ'->Keep ρ ρ' H H'->Sim tb ρ' vh' H'->Post tb X σ ρ' H' (k v vh') Q->R v H'):PostO tb X σ ρ H (m vh) R:=by
 unfold M.bind at p
 cases e:m vh with
 | ok v vh1 =>
  rw [e] at p
  exact fun ρ' H' p1 k1 S1=>hR vh1 ρ' H' v p1 k1 S1 (Post.fwd p1 k1 p)
 | exc x vh1=>rw [e] at p;exact p
 | bad=>rw [e] at p;exact p
abbrev GM:=PV->List PV->M PV
def isStr:PV->Bool | .str _=>true | _=>false
def fBMs (g:GM) (fo:FE) (fs:FA):FE:=fun τ=>M.bind (fo τ) fun x=>match isStr x with
 | true=>M.bind (fs τ) fun xs=>g x xs
 | false=>M.bad
def rmOf (tb:Tb) (X:Cx) (g:GM):V->List V->Hp->VK->Prop:=fun w ws H Q=>∃ σ ρ vh v vs,Sim tb ρ vh H/\Rep ρ H v w/\Reps ρ H vs ws/\Post tb X σ ρ H (g v vs vh) Q
theorem e_bms {name:Str} {id:String} {g:GM} (slot:Slot "str" name id) (hty:typeOf (.builtin id)=pure (.type "method_descriptor")) (hm:MtR X id (rmOf tb X g)) (ho:EOk tb X o fo) (ha:AOk tb X (e :: es) fs)
  (hbase:attributeBase o name X.env (eval o X.env)=eval o X.env:=by rfl)
  (hfew:((backTo cpos (starEach (e :: es) X.env)).all (fun x=>!x.1) && (backToKw cpos (keywordEach [] X.env)).all (fun x=>x.1.isSome)
   && decide ((e :: es).length + ([]:List Keyword).length + (if ([]:List Keyword).isEmpty then 0 else 1) < 30))=true:=by rfl)
  (hline:(apos.endLine == cpos.line)=true:=by rfl) (hs:starEach (e :: es) X.env=(false,eval e X.env) :: starEach es X.env:=by rfl) (hplain:(backTo cpos (starEach es X.env)).any (·.1)=false:=by rfl) :
  EOk tb X (.Call (.Attribute o name apos) (e :: es) [] cpos) (fBMs g fo fs) :=
 PE.mono (pe_bm F.plainAttrs_str slot hty hm ho ha hbase hfew hline hs hplain) fun σ H Q ⟨ρ,vh,τ,st,S,p⟩=>⟨ρ,vh,τ,st,S,seqEE p fun vh1 ρ1 H1 v1 w1 p1 k1 S1 r1 q1=>by
  cases v1 with
  | str z =>
   cases (show w1=.str z from r1)
   exact ⟨rfl,ρ1,vh1,τ,st.mono p1 k1,S1,seqAE q1 fun vh2 ρ2 H2 vs ws p2 k2 S2 r2 q2=>⟨σ,ρ2,vh2,.str z,vs,S2,rfl,r2,q2⟩⟩
  | _=>exact q1.elim⟩
def gSw:GM:=fun x xs=>match x,xs with
 | .str i,[.str j]=>M.ret (.bl (decide (0 + j.length<=i.length) && Builtin.Str.subAt i j 0))
 | _,_=>M.bad
theorem mt_sw:MtR X "str.startswith" (rmOf tb X gSw):=fun pins s σ H x xs v us Q I rx rs ⟨σ',ρ,vh,y,ys,S,r,rr,p⟩=>by
 match y,ys,r,rr,p with
 | .str i,[.str j],r,rr,p =>
  cases (show x=.str i from r)
  obtain ⟨w,ws,rfl,r1,hn⟩:=rr
  cases (show ws=[] from hn)
  cases (show w=.str j from r1)
  obtain ⟨u,rfl,ru⟩:=rs.one
  obtain ⟨t,rfl⟩:=(show ∃ t,v=Value.str i t from rx)
  obtain ⟨t',rfl⟩:=(show ∃ t,u=Value.str j t from ru)
  exact call_gives F.slot_str_startswith (typeIs_str _ _ _) F.entry_str_startswith (F.args_str_startswith_2 _ _) (gives_str_startswith i j t t') ⟨.bl _,H,I,rfl,Post.here p S rfl⟩
def fBMl (g:Nat->List PV->M PV) (fo:FE) (fs:FA):FE:=fun τ=>M.bind (fo τ) fun x=>match x with
 | .ref l=>fun h=>match lsOf h l with
  | some _=>M.bind (fs τ) (fun xs=>g l xs) h
  | none=>.bad
 | _=>M.bad
def rmL (tb:Tb) (X:Cx) (g:Nat->List PV->M PV):V->List V->Hp->VK->Prop:=fun w ws H Q=>∃ σ ρ vh l a vs,Sim tb ρ vh H/\ρ[l]?=some a/\w=.ref a/\Reps ρ H vs ws/\Post tb X σ ρ H (g l vs vh) Q
theorem e_bml {name:Str} {id:String} {g:Nat->List PV->M PV} (slot:Slot "list" name id) (hty:typeOf (.builtin id)=pure (.type "method_descriptor")) (hm:MtR X id (rmL tb X g)) (ho:EOk tb X o fo) (ha:AOk tb X (e :: es) fs)
  (hbase:attributeBase o name X.env (eval o X.env)=eval o X.env:=by rfl)
  (hfew:((backTo cpos (starEach (e :: es) X.env)).all (fun x=>!x.1) && (backToKw cpos (keywordEach [] X.env)).all (fun x=>x.1.isSome)
   && decide ((e :: es).length + ([]:List Keyword).length + (if ([]:List Keyword).isEmpty then 0 else 1) < 30))=true:=by rfl)
  (hline:(apos.endLine == cpos.line)=true:=by rfl) (hs:starEach (e :: es) X.env=(false,eval e X.env) :: starEach es X.env:=by rfl) (hplain:(backTo cpos (starEach es X.env)).any (·.1)=false:=by rfl) :
  EOk tb X (.Call (.Attribute o name apos) (e :: es) [] cpos) (fBMl g fo fs) :=
 PE.mono (pe_bm F.plainAttrs_list slot hty hm ho ha hbase hfew hline hs hplain) fun σ H Q ⟨ρ,vh,τ,st,S,p⟩=>⟨ρ,vh,τ,st,S,seqEE p fun vh1 ρ1 H1 v1 w1 p1 k1 S1 r1 q1=>by
  cases v1 with
  | ref l =>
   obtain ⟨a1,h1,rfl⟩:=r1
   dsimp only at q1
   cases ql:lsOf vh1 l with
   | none=>rw [ql] at q1;exact q1.elim
   | some ys =>
    rw [ql] at q1
    obtain ⟨vs,rr,rd⟩:=ls_rd S1 ql h1
    exact ⟨.inl ⟨rfl,vs,.inl rd⟩,ρ1,vh1,τ,st.mono p1 k1,S1,seqAE q1 fun vh2 ρ2 H2 vs ws p2 k2 S2 r2 q2=>⟨σ,ρ2,vh2,l,a1,vs,S2,pre_get p2 h1,rfl,r2,q2⟩⟩
  | _=>exact q1.elim⟩
def gApp:Nat->List PV->M PV:=fun l xs h=>match xs with
 | [v]=>match h[l]? with
  | some (.lst ys)=>if ys.length < big then .ok .non (h.set l (.lst (ys++[v]))) else .bad
  | _=>.bad
 | _=>.bad
theorem mt_appF:MtR X "list.append" (rmL tb X gApp):=fun pins s σ H x xs v us Q I rx rs ⟨σ',ρ,vh,l,a,vs,S,la,e,rr,p⟩=>by
 match vs,rr,p with
 | [],_,p=>exact p.elim
 | _ :: _ :: _,_,p=>exact p.elim
 | [y],rr,p =>
  obtain ⟨w,ws,rfl,r1,hn⟩:=rr
  cases (show ws=[] from hn)
  simp only [gApp] at p
  cases eo:vh[l]? with
  | none=>rw [eo] at p;exact p.elim
  | some ob =>
   rw [eo] at p
   cases ob with
   | lst ys =>
    dsimp only at p
    by_cases hz:ys.length < big
    ·rw [if_pos hz] at p
     obtain ⟨us',hD,rvs⟩:=sim_lst S la eo
     have kD:Keep ρ ρ H (upd H a (.lst (us'++[w]))):=Keep.put' S (List.mem_of_getElem? la) hD
     refine mt_append pins s σ H x [w] v us Q I rx rs ⟨a,us',w,e,rfl,hD,by rw [rvs.length];exact Nat.lt_of_lt_of_le hz big_le,?_⟩
     exact p ρ _ .non List.prefix_rfl kD (S.set la ⟨_,upd_same,(Reps.append (ys:=[y]) (ws:=[w]) rvs ⟨w,[],rfl,r1,rfl⟩).mono List.prefix_rfl kD⟩) rfl
    ·rw [if_neg hz] at p;exact p.elim
   | _=>exact p.elim
theorem e_append (ho:EOk tb X o fo) (ha:AOk tb X [e] fs)
  (hbase:attributeBase o "append" X.env (eval o X.env)=eval o X.env:=by rfl)
  (hfew:((backTo cpos (starEach [e] X.env)).all (fun x=>!x.1) && (backToKw cpos (keywordEach [] X.env)).all (fun x=>x.1.isSome)
   && decide ([e].length + ([]:List Keyword).length + (if ([]:List Keyword).isEmpty then 0 else 1) < 30))=true:=by rfl)
  (hline:(apos.endLine == cpos.line)=true:=by rfl) (hs:starEach [e] X.env=(false,eval e X.env) :: starEach [] X.env:=by rfl) (hplain:(backTo cpos (starEach [] X.env)).any (·.1)=false:=by rfl) :
  EOk tb X (.Call (.Attribute o "append" apos) [e] [] cpos) (fBMl gApp fo fs):=e_bml PySem.F.slot_list_append PySem.F.type_list_append mt_appF ho ha hbase hfew hline hs hplain
end
end FS
namespace FS
open PySem PySem.Spec PyProof.Rows L2 FX
section
variable {tb:Tb} {X:Cx} {pos p p2 apos cpos:Pos} {a b c e o:Expr} {es:List Expr} {fa fb fc fe fo fi:FE} {fs:FA} {x:Str}
def gSetL (fo fi:FE):FG:=fun v τ h=>match fo τ h with
 | .ok (.ref l) h1=>match fi τ h1 with
  | .ok (.int k) h2=>match h2[l]? with
   | some (.lst xs)=>match ixN xs.length k with
    | some j=>.next τ (h2.set l (.lst (xs.set j v)))
    | none=>.bad
   | _=>.bad
  | _=>.bad
 | _=>.bad
theorem Reps.set {ρ:List Addr} {H:Hp} {x:PV} {v:V} (r:Rep ρ H x v):∀ {xs:List PV} {vs:List V} (n:Nat),Reps ρ H xs vs->Reps ρ H (xs.set n x) (vs.set n v)
 | [],_,_,h=>by rw [show _=[] from h];simp [Reps]
 | _ :: _,_,0,h=>by obtain ⟨w,ws,rfl,_,t⟩:=h;exact ⟨v,ws,rfl,r,t⟩
 | _ :: _,_,n + 1,h=>by obtain ⟨w,ws,rfl,q,t⟩:=h;exact ⟨w,_,rfl,q,Reps.set r n t⟩
theorem g_setL (ho:EOk tb X o fo) (hi:EOk tb X a fi) (ha:∀ v,assign (.Subscript o a pos) X.env v=(do
   let ov <- holding [v] (eval o X.env)
   let iv <- holding [v,ov] (eval a X.env)
   standAt pos
   holding [v,ov,iv] (setItem ov iv v)
   release [v,ov,iv] []):=by intro _;rfl):GOk tb X (.Subscript o a pos) (gSetL fo fi) :=
 PG.mono (pg_sub ho hi set_list ha) fun w σ H Q ⟨ρ,vh,τ,v,st,S,r,p⟩=>by
  refine ⟨ρ,vh,τ,st,S,?_⟩
  unfold gSetL at p
  cases e1:fo τ vh with
  | ok ov h1 =>
   rw [e1] at p
   cases ov with
   | ref l =>
    dsimp only at p
    intro ρ1 H1 ow p1 k1 S1 r1
    obtain ⟨a1,la,rfl⟩:=r1
    refine ⟨ρ1,h1,τ,st.mono p1 k1,S1,?_⟩
    cases e2:fi τ h1 with
    | ok iv h2 =>
     rw [e2] at p
     cases iv with
     | int k =>
      dsimp only at p
      intro ρ2 H2 iw p2 k2 S2 r2
      have la2:=pre_get p2 la
      cases e3:h2[l]? with
      | none=>rw [e3] at p;exact p.elim
      | some ob =>
       rw [e3] at p
       cases ob with
       | lst xs =>
        dsimp only at p
        obtain ⟨vs,hD,rvs⟩:=sim_lst S2 la2 e3
        cases e4:ixN xs.length k with
        | none=>rw [e4] at p;exact p.elim
        | some j =>
         rw [e4] at p
         have kD:Keep ρ2 ρ2 H2 (upd H2 a1 (.lst (vs.set j w))):=Keep.put' S2 (List.mem_of_getElem? la2) hD
         refine ⟨a1,vs,k,j,rfl,r2,hD,by rw [rvs.length];exact e4,?_⟩
         exact p ρ2 _ σ (p1.trans p2) (k1.trans (k2.trans kD)) (S2.set la2 ⟨_,upd_same,(Reps.set ((r.mono p1 k1).mono p2 k2) j rvs).mono List.prefix_rfl kD⟩) (((st.mono p1 k1).mono p2 k2).mono List.prefix_rfl kD)
       | _=>exact p.elim
     | _=>exact p.elim
    | exc _ _=>rw [e2] at p;exact p.elim
    | bad=>rw [e2] at p;exact p.elim
   | _=>exact p.elim
  | exc _ _=>rw [e1] at p;exact p.elim
  | bad=>rw [e1] at p;exact p.elim
def gIdx:Nat->List PV->M PV:=fun l xs h=>match xs with
 | [v]=>match lsOf h l with
  | some ys=>if (fl v && ys.all fl && ys.any (fun y=>feq y v)) && decide (ys.length<=big) then .ok (.int (ys.findIdx fun y=>feq y v)) h else .bad
  | none=>.bad
 | _=>.bad
theorem find_eqU {ρ:List Addr} {H:Hp} {x:PV} {v:V} (r:Rep ρ H x v) (f:fl x=true):∀ {xs:List PV} {vs:List V} {us:List Value},Reps ρ H xs vs->Vals vs us->xs.all fl=true->us.findIdx (eqU v)=xs.findIdx (fun y=>feq y x)
 | [],_,_,h,q,_=>by rw [show _=[] from h] at q;rw [q.zero];rfl
 | y :: ys,_,us,h,q,g=>by
  obtain ⟨w,ws,rfl,r1,r2⟩:=h
  rw [List.all_cons,Bool.and_eq_true] at g
  cases q with
  | cons rq tq =>
   rw [List.findIdx_cons,List.findIdx_cons,find_eqU r f r2 tq g.2,eqU_of rq (fl_V r1 g.1),feq_V r1 r g.1 f]
theorem mt_idxF:MtR X "list.index" (rmL tb X gIdx):=fun pins s σ H x xs v us Q I rx rs ⟨σ',ρ,vh,l,a,vs,S,la,e,rr,p⟩=>by
 match vs,rr,p with
 | [],_,p=>exact p.elim
 | _ :: _ :: _,_,p=>exact p.elim
 | [y],rr,p =>
  obtain ⟨w,ws,rfl,r1,hn⟩:=rr
  cases (show ws=[] from hn)
  subst e
  cases (show v=Value.ref a from rx)
  obtain ⟨u,rfl,ru⟩:=rs.one
  simp only [gIdx] at p
  cases eo:lsOf vh l with
  | none=>rw [eo] at p;exact p.elim
  | some ys =>
   rw [eo] at p
   dsimp only at p
   by_cases hz:((fl y && ys.all fl && ys.any (fun z=>feq z y)) && decide (ys.length<=big))=true
   ·rw [if_pos hz] at p
    simp only [Bool.and_eq_true,decide_eq_true_eq] at hz
    obtain ⟨⟨⟨h1,h2⟩,h3⟩,h4⟩:=hz
    obtain ⟨vs,rv,rd⟩:=ls_rd S eo la
    obtain ⟨its,rvs,⟨ob,nn,ho,hc,hdd,hdt⟩,hl⟩:=I.list (.inl rd)
    have hi:its.findIdx (eqU w)=ys.findIdx (fun z=>feq z y):=find_eqU r1 h1 rv rvs h2
    have hlen:its.length=ys.length:=by rw [<- rvs.length,rv.length]
    have hlt:ys.findIdx (fun z=>feq z y) < ys.length:=by
     rw [List.findIdx_lt_length]
     obtain ⟨z,hz,hq⟩:=List.any_eq_true.mp h3
     exact ⟨z,hz,hq⟩
    have hsz:its.findIdx (eqU w) < its.toArray.size:=by rw [List.size_toArray,hi,hlen];exact hlt
    obtain ⟨oc,od,oda,osl⟩:=ob
    dsimp only at hc hdd hdt
    subst hc hdt
    refine call_meets F.slot_list_index ⟨_,ho,rfl⟩ F.entry_list_index (F.args_list_index_2 _ _) (SeqAt.list_indexAt a its.toArray nn od osl u (eqU w) (its.findIdx (eqU w)) hsz ?_ ?_ ?_) ⟨ho,?_,?_⟩
    ·have hbl:big=1000000:=rfl
     rw [hi];have:=Nat.lt_of_lt_of_le hlt h4;omega
    ·have:=List.findIdx_getElem (xs:=its) (p:=eqU w) (w:=by simpa using hsz)
     simpa using this
    ·intro m hm hmj
     have:=List.not_of_lt_findIdx (xs:=its) (p:=eqU w) (i:=m) hmj
     simpa using this
    ·intro z hz
     have fz:vs.all flatV=true:=(inV_P r1 h1 rv h2).1
     exact mem_eqAt ru (fl_V r1 h1) rvs fz z (by simpa using hz)
    ·rw [hi]
     exact ⟨.int _,H,I.tok _,⟨_,rfl⟩,Post.here p S rfl⟩
   ·rw [if_neg hz] at p;exact p.elim
theorem e_index (ho:EOk tb X o fo) (ha:AOk tb X [e] fs)
  (hbase:attributeBase o "index" X.env (eval o X.env)=eval o X.env:=by rfl)
  (hfew:((backTo cpos (starEach [e] X.env)).all (fun x=>!x.1) && (backToKw cpos (keywordEach [] X.env)).all (fun x=>x.1.isSome)
   && decide ([e].length + ([]:List Keyword).length + (if ([]:List Keyword).isEmpty then 0 else 1) < 30))=true:=by rfl)
  (hline:(apos.endLine == cpos.line)=true:=by rfl) (hs:starEach [e] X.env=(false,eval e X.env) :: starEach [] X.env:=by rfl) (hplain:(backTo cpos (starEach [] X.env)).any (·.1)=false:=by rfl) :
  EOk tb X (.Call (.Attribute o "index" apos) [e] [] cpos) (fBMl gIdx fo fs):=e_bml PySem.F.slot_list_index PySem.F.type_list_index mt_idxF ho ha hbase hfew hline hs hplain
end
end FS
namespace FS
open PySem PySem.Spec PyProof.Rows L2 FX
def hxs (A:Around):List Addr:=match A.handled with
 | some (.ref e)=>[e]
 | _=>[]
theorem Calm.at {A:Around} {h h':Heap} (c:Calm A h) (k:∀ b ∈ hxs A,∀ o,h.get? b=some o->h'.get? b=some o):Calm A h':=by
 rcases c with c | ⟨v,hv,a,o,fs,rfl,g,d,z⟩
 ·exact .inl c
 ·refine .inr ⟨_,hv,a,o,fs,rfl,k a ?_ o g,d,z⟩
  unfold hxs;rw [hv];simp
theorem walks_list {prog:Program} {w:World} {A:Around} (I ax:Addr) (hne:ax ≠ I) (hnh:∀ v,A.handled=some v->v ≠ .ref I) (items:Array Value) :
  Walks prog w A I (I :: ax :: hxs A) [I] items.size (fun i v=>items[i]?=some v) (fun i h=>h.IsListIter I ax i/\h.IsList ax items/\Calm A h) where
 sub:=fun b hb=>by simp at hb;simp [hb]
 frame:=fun _ _ _ st hk=>⟨st.1.at fun o e=>hk I (by simp) o e,st.2.1.at fun o e=>hk ax (by simp) o e,Calm.at st.2.2 fun b hb o e=>hk b (by simp [hb]) o e⟩
 item:=fun i s Q E hi st hQ=>by
  refine wpAny_pyNext_list_item st.1 st.2.1 (x:=items[i]) (by simp [hi]) fun h' hit' hs'=>?_
  refine hQ _ h' s.toks (by simp [hi]) ⟨hit',st.2.1.extBut hs'.extBut hne,Calm.at st.2.2 fun b hb o e=>hs'.extBut b o (fun z=>?_) e⟩ fun b o hb e=>hs'.extBut b o (fun h=>hb (by simp [h])) e
  unfold hxs at hb
  split at hb
  ·rename_i e' he
   have:b=e':=by simpa using hb
   exact hnh _ he (by rw [<- this,z])
  ·simp at hb
 done:=fun s Q E st hQ=>next_list_end st.2.2 st.1 st.2.1 (by simp) hnh fun h' he'=>hQ h' s.toks fun b o hb e=>he' b o (fun h=>hb (by simp [h])) e
 self:=fun _ _ _ _ st hQ=>wpAny_pyIter_listiter st.1 hQ
section
variable {tb:Tb} {X:Cx} {pos p:Pos} {e:Expr} {es:List Expr} {fs:FA}
theorem walk_list {pins:List (Addr × Obj)} {s:Shared} {σ:St} {H:Hp} {ρ:List Addr} {vh:VH} {l:Nat} {a:Addr} {ys:List PV} (I:Inv X pins σ H s) (hd:Hd X.A.handled H) (S:Sim tb ρ vh H) (la:ρ[l]?=some a) (el:lsOf vh l=some ys) {Q:Value->Shared->Prop} {E:Value->Shared->Prop}
  (h:∀ (vs:List V) (its:List Value),Reps ρ H ys vs->Vals vs its->Walks X.prog X.w X.A.in1 s.heap.objs.size (s.heap.objs.size :: a :: hxs X.A.in1) [s.heap.objs.size] its.toArray.size (fun i v=>its.toArray[i]?=some v) (fun i h=>h.IsListIter s.heap.objs.size a i/\h.IsList a its.toArray/\Calm X.A.in1 h) ->
   (∀ b ∈ s.heap.objs.size :: a :: hxs X.A.in1,b < (s.heap.push { cls:=.type "list_iterator",data:=.fields #[.ref a,.int 0 0] }).objs.size) ->
   (∀ h' tk,(∀ b o,b ∉ [s.heap.objs.size]->(s.heap.push { cls:=.type "list_iterator",data:=.fields #[.ref a,.int 0 0] }).get? b=some o->h'.get? b=some o)->Inv X pins σ H { s with heap:=h',toks:=tk }) ->
   (fun i h=>h.IsListIter s.heap.objs.size a i/\h.IsList a its.toArray/\Calm X.A.in1 h) 0 (s.heap.push { cls:=.type "list_iterator",data:=.fields #[.ref a,.int 0 0] })->Q (.ref s.heap.objs.size) { s with heap:=s.heap.push { cls:=.type "list_iterator",data:=.fields #[.ref a,.int 0 0] } }) :
  wpAny (model X.prog X.w) X.A.in1 (pyIter (.ref a)) Q E s:=by
 obtain ⟨vs,rr,rd⟩:=ls_rd S el la
 obtain ⟨its,rv,pl,hz⟩:=I.list (.inl rd)
 have hL:=pl.isList
 have ha:a < s.heap.objs.size:=by obtain ⟨o,ho,_⟩:=id hL;exact Heap.lt_size ho
 have hcalm:Calm X.A.in1 s.heap:=hd_calm (A:=X.A.in1) hd I.hok
 have hnh:∀ v,X.A.in1.handled=some v->v ≠ .ref s.heap.objs.size:=fun v hv z=>by
  rcases hcalm with c | ⟨v',hv',b,o,fs,rfl,g,_,_⟩
  ·rw [c] at hv;cases hv
  ·rw [hv'] at hv;cases hv;cases z;exact absurd (Heap.lt_size g) (Nat.lt_irrefl _)
 refine wpAny_pyIter_list hL (h vs its rr rv (walks_list _ a (Nat.ne_of_lt ha) hnh its.toArray) (fun b hb=>?_) (fun h' tk kp=>I.kept fun b o q=>kp b o (fun z=>?_) (Heap.get?_push_of_some _ q)) ⟨⟨_,Heap.get?_push_size _ rfl,rfl,rfl⟩,?_,hcalm.keeps fun b o q=>Heap.get?_push_of_some _ q⟩)
 ·have hs:(s.heap.push { cls:=.type "list_iterator",data:=.fields #[.ref a,.int 0 0] }).objs.size=s.heap.objs.size + 1:=by simp [Heap.push]
  rw [hs]
  rcases List.mem_cons.mp hb with rfl | hb
  ·exact Nat.lt_succ_self _
  ·rcases List.mem_cons.mp hb with rfl | hb
   ·exact Nat.lt_succ_of_lt ha
   ·unfold hxs at hb
    split at hb
    ·rename_i e' he
     have:b=e':=by simpa using hb
     subst this
     rcases hcalm with c | ⟨v',hv',b',o,fs,rfl,g,_,_⟩
     ·rw [c] at he;cases he
     ·rw [hv'] at he;cases he;exact Nat.lt_succ_of_lt (Heap.lt_size g)
    ·simp at hb
 ·have:b=s.heap.objs.size:=by simpa using z
  subst this;exact absurd (Heap.lt_size q) (Nat.lt_irrefl _)
 ·obtain ⟨o,ho,r⟩:=id hL
  exact ⟨o,Heap.get?_push_of_some _ ho,r⟩
def trP (xs:List PV) (i:Nat):Bool:=match xs[i]? with
 | some (.bl b)=>b
 | _=>false
def isBl:PV->Bool | .bl _=>true | _=>false
def isInt:PV->Bool | .int _=>true | _=>false
def valP (xs:List PV) (i:Nat):Int:=match xs[i]? with
 | some (.int k)=>k
 | _=>0
def gAll:FF:=fun xs h=>match xs with
 | [.ref l]=>match lsOf h l with
  | some ys=>if ys.all isBl then .ok (.bl ((List.range ys.length).all (trP ys))) h else .bad
  | none=>.bad
 | _=>.bad
def gSum:FF:=fun xs h=>match xs with
 | [.ref l]=>match lsOf h l with
  | some ys=>if ys.all isInt then .ok (.int (preSum (valP ys) ys.length)) h else .bad
  | none=>.bad
 | _=>.bad
theorem item_of {ρ:List Addr} {H:Hp} {ys:List PV} {vs:List V} {its:List Value} {i:Nat} {v:Value} (rr:Reps ρ H ys vs) (rv:Vals vs its) (h:its.toArray[i]?=some v):∃ y w,ys[i]?=some y/\Rep ρ H y w/\RelV w v:=by
 have hi:i < its.length:=by
  have:=(Array.getElem?_eq_some_iff.mp h).1;simpa using this
 have hl:its.length=ys.length:=by rw [<- rv.length,rr.length]
 have hy:ys[i]?=some ys[i]:=List.getElem?_eq_getElem (by omega)
 obtain ⟨w,hw,r⟩:=rr.get hy
 obtain ⟨u,hu,ru⟩:=rv.get hw
 have:its[i]?=some v:=by simpa using h
 rw [this] at hu;cases hu
 exact ⟨_,w,hy,r,ru⟩
theorem call_allF:CallR X (.builtin "all") (rcOf tb X gAll):=fun pins s σ H xs us Q I rs ⟨σ',ρ,vh,ys,hd,S,r,p⟩=>by
 match ys,r,p with
 | [],_,p=>exact p.elim
 | y :: _ :: _,_,p=>cases y <;> exact p.elim
 | [y],r,p =>
  obtain ⟨w,ws,rfl,r1,hn⟩:=r
  cases (show ws=[] from hn)
  obtain ⟨u,rfl,ru⟩:=rs.one
  cases y with
  | ref l =>
   obtain ⟨a,la,rfl⟩:=r1
   cases (show u=Value.ref a from ru)
   simp only [gAll] at p
   cases el:lsOf vh l with
   | none=>rw [el] at p;exact p.elim
   | some ys =>
    rw [el] at p
    dsimp only at p
    by_cases hz:ys.all isBl=true
    ·rw [if_pos hz] at p
     refine call_all_walk (walk_list I hd S la el fun vs its rr rv W hfp hI hst=>⟨_,_,_,_,_,_,trP ys,rfl,W,hst,fun i v s' Q' E' hv hq=>?_,fun h' tk hk=>?_⟩)
     ·obtain ⟨y,w,hy,ry,rw'⟩:=item_of rr rv hv
      have hb:=List.all_eq_true.mp hz y (List.mem_of_getElem? hy)
      cases y with
      | bl k =>
       cases ry;cases rw'
       have:trP ys i=k:=by unfold trP;rw [hy]
       rw [this] at hq
       exact wpAny_truthy_bool hq
      | _=>exact absurd hb Bool.false_ne_true
     ·refine ⟨.bl _,H,hI h' tk hk,rfl,?_⟩
      have:its.toArray.size=ys.length:=by rw [List.size_toArray,<- rv.length,rr.length]
      rw [this]
      exact Post.here p S rfl
    ·rw [if_neg hz] at p;exact p.elim
  | _=>exact p.elim
theorem call_sumF:CallR X (.builtin "sum") (rcOf tb X gSum):=fun pins s σ H xs us Q I rs ⟨σ',ρ,vh,ys,hd,S,r,p⟩=>by
 match ys,r,p with
 | [],_,p=>exact p.elim
 | y :: _ :: _,_,p=>cases y <;> exact p.elim
 | [y],r,p =>
  obtain ⟨w,ws,rfl,r1,hn⟩:=r
  cases (show ws=[] from hn)
  obtain ⟨u,rfl,ru⟩:=rs.one
  cases y with
  | ref l =>
   obtain ⟨a,la,rfl⟩:=r1
   cases (show u=Value.ref a from ru)
   simp only [gSum] at p
   cases el:lsOf vh l with
   | none=>rw [el] at p;exact p.elim
   | some ys =>
    rw [el] at p
    dsimp only at p
    by_cases hz:ys.all isInt=true
    ·rw [if_pos hz] at p
     refine call_sum_walkG (walk_list I hd S la el fun vs its rr rv W hfp hI hst=>⟨_,_,_,_,_,_,valP ys,rfl,W,hst,hfp,fun i v hv=>?_,fun h' tk t' hk=>?_⟩)
     ·obtain ⟨y,w,hy,ry,rw'⟩:=item_of rr rv hv
      have hb:=List.all_eq_true.mp hz y (List.mem_of_getElem? hy)
      cases y with
      | int k =>
       cases ry
       obtain ⟨t,rfl⟩:=(show ∃ t,v=Value.int k t from rw')
       exact ⟨t,by unfold valP;rw [hy]⟩
      | _=>exact absurd hb Bool.false_ne_true
     ·refine ⟨.int _,H,hI h' tk hk,⟨_,rfl⟩,?_⟩
      have:its.toArray.size=ys.length:=by rw [List.size_toArray,<- rv.length,rr.length]
      rw [this]
      exact Post.here p S rfl
    ·rw [if_neg hz] at p;exact p.elim
  | _=>exact p.elim
theorem e_all (hg:Gl X "all") (hm:X.mg "all" = none) (ha:AOk tb X (e :: es) fs) (he:starEach (e :: es) X.env=(false,eval e X.env) :: starEach es X.env:=by rfl) (hpl:(backTo pos (starEach es X.env)).any (·.1)=false:=by rfl) :
  EOk tb X (.Call (.Name "all" p) (e :: es) [] pos) (fCB gAll fs):=e_callB call_allF (cb_of _) hg hm (by first | rfl | decide +kernel) ha (by decide) (by decide) he hpl
theorem e_sum (hg:Gl X "sum") (hm:X.mg "sum" = none) (ha:AOk tb X (e :: es) fs) (he:starEach (e :: es) X.env=(false,eval e X.env) :: starEach es X.env:=by rfl) (hpl:(backTo pos (starEach es X.env)).any (·.1)=false:=by rfl) :
  EOk tb X (.Call (.Name "sum" p) (e :: es) [] pos) (fCB gSum fs):=e_callB call_sumF (cb_of _) hg hm (by first | rfl | decide +kernel) ha (by decide) (by decide) he hpl
theorem e_len (hg:Gl X "len") (hm:X.mg "len" = none) (ha:AOk tb X (e :: es) fs) (he:starEach (e :: es) X.env=(false,eval e X.env) :: starEach es X.env:=by rfl) (hpl:(backTo pos (starEach es X.env)).any (·.1)=false:=by rfl) :
  EOk tb X (.Call (.Name "len" p) (e :: es) [] pos) (fCB gLen fs):=e_callB call_lenF (cb_of _) hg hm (by first | rfl | decide +kernel) ha (by decide) (by decide) he hpl
theorem e_max (hc:X.calm=true) (hg:Gl X "max") (hm:X.mg "max" = none) (ha:AOk tb X (e :: es) fs) (he:starEach (e :: es) X.env=(false,eval e X.env) :: starEach es X.env:=by rfl) (hpl:(backTo pos (starEach es X.env)).any (·.1)=false:=by rfl) :
  EOk tb X (.Call (.Name "max" p) (e :: es) [] pos) (fCB gMax fs):=e_callB (call_max2 hc) cb_max hg hm (by first | rfl | decide +kernel) ha (by decide) (by decide) he hpl
theorem e_min (hc:X.calm=true) (hg:Gl X "min") (hm:X.mg "min" = none) (ha:AOk tb X (e :: es) fs) (he:starEach (e :: es) X.env=(false,eval e X.env) :: starEach es X.env:=by rfl) (hpl:(backTo pos (starEach es X.env)).any (·.1)=false:=by rfl) :
  EOk tb X (.Call (.Name "min" p) (e :: es) [] pos) (fCB gMin fs):=e_callB (call_min2 hc) cb_min hg hm (by first | rfl | decide +kernel) ha (by decide) (by decide) he hpl
theorem e_intC (hg:Gl X "int") (hm:X.mg "int" = none) (ha:AOk tb X (e :: es) fs) (he:starEach (e :: es) X.env=(false,eval e X.env) :: starEach es X.env:=by rfl) (hpl:(backTo pos (starEach es X.env)).any (·.1)=false:=by rfl) :
  EOk tb X (.Call (.Name "int" p) (e :: es) [] pos) (fCB gInt fs):=e_callTy call_int1 cb_int hg hm (by first | rfl | decide +kernel) ha (by decide) (by decide) he hpl
end
end FS
namespace FS
open PySem PySem.Spec PyProof.Rows L2 FX
abbrev bmV:List Value:=[.type "ValueError",.type "Exception",.type "BaseException",.type "object"]
structure XAt (K:PySem.W.Frag) (C:Addr):Type where
 bm:List Value
 N:Addr
 nm:Str
 q:Str
 bs:List Value
 hdct:Bool
 sn:List Str
 sub:List Value
 ab:Bool
 col:Option Bool
 dd:Option Addr
 k0:Option Value
 k1:Option Value
 k2:Option Value
 k3:Option Value
 k5:Option Value
 get:K.lookup C=some (excClassObj nm q C N bs bm hdct sn sub ab col dd k0 k1 k2 k3 k5 "ValueError.__new__")
 ok:PySem.W.nsOkIn K N=true
 ini:PySem.W.nsIn K N "__init__" = some none
 tail:PySem.W.tailIn K bmV bm=true
theorem xat_of {K:PySem.W.Frag} {C:Addr} (q:PySem.W.excIn K C bmV "ValueError.__new__" = true):Nonempty (XAt K C):=by
 unfold PySem.W.excIn at q
 split at q
 ·rename_i dd cd sl ho
  split at q
  ·rename_i C' bm k0 k1 k2 k3 n k5 hm hs
   simp only [Bool.and_eq_true,beq_iff_eq,Bool.not_eq_true'] at q
   obtain ⟨⟨⟨⟨⟨rfl,rfl⟩,hdel⟩,ht⟩,hok⟩,hni⟩:=q
   obtain ⟨nm,bs,mro,ns,qn,hd,sn,sub,ab,col,del⟩:=cd
   dsimp only at hm hdel hok hni
   subst hm hdel
   have hsl:sl=#[k0,k1,k2,k3,some (.builtin "ValueError.__new__"),k5]:=by
    obtain ⟨l⟩:=sl
    simp only at hs
    rw [hs]
   subst hsl
   exact ⟨⟨bm,ns,nm,qn,bs,hd,sn,sub,ab,col,dd,k0,k1,k2,k3,k5,ho,hok,hni,ht⟩⟩
  ·cases q
 ·cases q
theorem ns_same {K:PySem.W.Frag} {N:Addr} {h h':Heap} (ok:PySem.W.nsOkIn K N=true) (X:K.In h) (X':K.In h'):h'.nsMap N=h.nsMap N:=by
 unfold PySem.W.nsOkIn at ok
 split at ok
 ·rename_i ho
  unfold Heap.nsMap
  rw [X _ _ ho,X' _ _ ho]
 ·cases ok
theorem tail_has {h:Heap} {l:List Value} (T:OwnTail h bmV l):l.contains (.type "BaseException")=true:=T.hasType (by decide)
def sRaise (C:Addr) (fs:FA):FSt:=fun τ=>M.then (fs τ) fun xs h=>if xs.length<=big then .exc ⟨C,[],[]⟩ h else .bad
section
variable {tb:Tb} {X:Cx} {pos np cpos:Pos} {e:Expr} {es:List Expr} {fs:FA} {x:Str} {C:Addr}
theorem unpin {pins:List (Addr × Obj)} {σ:St} {H:Hp} {s:Shared} (I:Inv X pins σ H s):Inv X [] σ H s:=I.pins_of fun _ h=>absurd h (by simp)
theorem exc_new {pins:List (Addr × Obj)} {σ:St} {H:Hp} {s:Shared} {ρ:List Addr} {vh:VH} {h':Heap} {e:Addr} {us:List Value} (I:Inv X pins σ H s) (S:Sim tb ρ vh H) (m:Heap.MadeExcOf s.heap h' e (.ref C) us):XPost tb X σ ρ H ⟨C,[],[]⟩ vh (.ref e) { s with heap:=h' }:=by
 have nH:H e=none:=by
  cases z:H e with
  | none=>rfl
  | some u =>
   exfalso
   have ok:=I.hok e u z
   have:∃ o,s.heap.get? e=some o:=by
    cases u with
    | lst xs=>obtain ⟨_,_,_,_,e⟩:=ok;exact ⟨_,e⟩
    | tup xs=>obtain ⟨_,_,_,o,e,_⟩:=ok;exact ⟨_,e⟩
    | dK kvs=>obtain ⟨_,_,_,_,o,_,_,e,_⟩:=ok;exact ⟨_,e⟩
    | dT kvs=>obtain ⟨_,_,_,_,o,_,_,e,_⟩:=ok;exact ⟨_,e⟩
    | set S n=>obtain ⟨o,_,_,_,e,_⟩:=ok;exact ⟨_,e⟩
    | ins C dx fs=>obtain ⟨_,_,_,e,_⟩:=ok;exact ⟨_,e⟩
    | own y=>obtain ⟨_,e⟩:=ok;exact ⟨_,e⟩
    | xd fs=>obtain ⟨_,⟨_,_,_,e,_⟩,_⟩:=ok;exact ⟨_,e⟩
    | rng lo hi=>obtain ⟨_,_,_,e⟩:=ok;exact ⟨_,e⟩
    | frz ob u=>obtain ⟨e,_⟩:=ok;exact ⟨_,e⟩
    | tbl ps=>exact ⟨_,ok⟩
    | met f y=>exact ⟨_,ok⟩
    | ext φ=>obtain ⟨_,⟨_,e⟩,_⟩:=ok;exact ⟨_,e⟩
   obtain ⟨o,q⟩:=this
   rw [m.new] at q;cases q
 refine ⟨ρ,H,e,List.prefix_rfl,Keep.refl,unpin (I.kept (h':=h') (t':=s.toks) m.keeps),S,rfl,⟨?_,nH,fun hx=>?_,fun q hq z=>?_,none,.inl ⟨rfl,rfl,rfl⟩,.inl ?_⟩⟩
 ·cases z:X.base.get? e with
  | none=>rfl
  | some o=>have:=I.bk e o z;rw [m.new] at this;cases this
 ·cases z:X.s₀.heap.get? e with
  | none=>rfl
  | some o=>obtain ⟨o',q⟩:=I.base.there e o z (by rw [hx];simp);rw [m.new] at q;cases q
 ·have:=(I.pin q (List.mem_append_left _ hq)).1
  rw [z,m.new] at this;cases this
 ·obtain ⟨t,h1,_,_⟩:=m.there
  exact ⟨6,by decide,_,_,h1,⟨rfl,rfl⟩,rfl,rfl,rfl,rfl⟩
theorem s_raise (hc:X.calm=true) (hx:PySem.W.excIn X.K C bmV "ValueError.__new__" = true) (hg:Gl X x) (hm:X.mg x=some (.ref C)) (ha:AOk tb X (e :: es) fs) (hdb:(x == ("__debug__" : Str))=false:=by decide)
  (he:starEach (e :: es) X.env=(false,eval e X.env) :: starEach es X.env:=by rfl) (hpl:(backTo cpos (starEach (e :: es) X.env)).any (·.1)=false:=by rfl):SOk tb X (.Raise (some (.Call (.Name x np) (e :: es) [] cpos)) none pos) (sRaise C fs):=by
 intro pins s σ H D I ⟨ρ,vh,τ,st,S,p⟩
 obtain ⟨xa⟩:=xat_of hx
 have hA:=ha cpos pins s σ H (fun ws H1=>∃ ρ1 vh1,ws.length<=big/\Sim tb ρ1 vh1 H1/\∀ σ ev s',XPost tb X σ ρ1 H1 ⟨C,[],[]⟩ vh1 ev s'->X.xe ev s') I ⟨ρ,vh,τ,st,S,seqAS (k:=fun xs h=>if xs.length<=big then .exc ⟨C,[],[]⟩ h else .bad) p fun vh1 ρ1 H1 v1 w1 p1 k1 S1 r1 q1=>?_⟩
 ·refine wpAny_Raise_call_subT (nm:=xa.nm) (q:=xa.q) (N:=xa.N) (bs:=xa.bs) (hdct:=xa.hdct) (sn:=xa.sn) (sub:=xa.sub) (ab:=xa.ab) (col:=xa.col) (dd:=xa.dd) (k0:=xa.k0) (k1:=xa.k1) (k2:=xa.k2) (k3:=xa.k3) (k5:=xa.k5) (mN:=s.heap.nsMap xa.N) PySem.F.excBase_ValueError (tail_has (PySem.W.tail_of_in I.kIn xa.tail)) (I.ok.hd hc) hpl (PySem.W.nsMap_none_of_in I.kIn xa.ok xa.ini) (ld_glob I hg hm ⟨rfl,?_⟩ hdb)
  rw [he] at hA ⊢
  refine Calls.evalArgs_plain (thn hA fun us s1 ⟨vs,H1,I1,rv,ρ1,vh1,hl,S1,hX⟩=>⟨rfl,?_,?_,?_,?_,fun h' e hm=>hX σ _ _ (exc_new I1 S1 hm)⟩)
  ·rw [<- rv.length];exact Nat.le_trans hl big_le
  ·exact I1.kIn _ _ xa.get
  ·rw [<- ns_same xa.ok I.kIn I1.kIn];exact .of_isNs (PySem.W.isNs_of_in I1.kIn xa.ok)
  ·exact PySem.W.tail_of_in I1.kIn xa.tail
 ·by_cases hz:v1.length<=big
  ·rw [if_pos hz] at q1
   exact ⟨ρ1,vh1,by rw [r1.length];exact hz,S1,q1⟩
  ·rw [if_neg hz] at q1;exact q1.elim
end
end FS
namespace FS
open PySem PySem.Spec PyProof.Rows L2 FX
def Cx.hold (X:Cx) (A:Around) (xe:Value->Shared->Prop):Cx:={ X with A:=A,calm:=false,xe:=xe }
theorem inv_hold {X:Cx} {A:Around} {xe:Value->Shared->Prop} {pins:List (Addr × Obj)} {σ:St} {H:Hp} {s:Shared} (hA:A.frames=X.A.frames) (I:Inv X pins σ H s):Inv (Cx.hold X A xe) pins σ H s :=
 ⟨⟨I.ok.mod,I.ok.kind,I.ok.glob,I.ok.blt,I.ok.above,I.ok.inj,I.ok.has,I.ok.cab,fun z=>absurd z Bool.false_ne_true,hA.trans I.ok.frames,I.ok.stk,I.ok.exf,I.ok.bs,I.ok.bsz,I.ok.noex,I.ok.exfs,I.ok.funs,I.ok.frf⟩,
  I.os,I.bare,I.base,I.loc,I.cell,I.free,I.freeC,I.pin,I.hok,I.len⟩
theorem inv_unhold {X:Cx} {A:Around} {xe:Value->Shared->Prop} {pins:List (Addr × Obj)} {σ:St} {H:Hp} {s:Shared} (ok:X.Ok) (I:Inv (Cx.hold X A xe) pins σ H s):Inv X pins σ H s :=
 ⟨ok,I.os,I.bare,I.base,I.loc,I.cell,I.free,I.freeC,I.pin,I.hok,I.len⟩
structure RoomW (k:Nat) (A:Around):Prop where
 dp:A.depth + 3 * k + 5 < recursionLimit
 un:A.units + 16 * k + 200 < cLine
theorem RoomW.deeper {k:Nat} {A:Around} (r:RoomW (k + 1) A) (env:Env):RoomW k (A.deeper env) :=
 ⟨by have:=r.dp;show A.depth + 1 + 3 * k + 5 < _;omega,by have:=r.un;show A.units + 3 + 16 * k + 200 < _;omega⟩
structure FnW (P:Program) (w:World) (K:PySem.W.Frag) (mg:Str->Option Value) (base:Heap) (tb:Tb) (k:Nat) (f:Addr) (fd:FuncData) (ps:List Str) (F:FF):Prop where
 run:∀ (A:Around) (outer:List Env) (s:Shared) (H:Hp) (args:Args) (us:List Value) (vs:List V) (Q:VK) (ρ:List Addr) (vh vh':VH) (xs:List PV) (v:PV),RoomW k A->Hd A.handled H->Env0 P w K mg base A outer s H->BindsTo s fd args (ps.zip us)->Vals vs us ->
  xs.length=ps.length->Reps ρ H xs vs->Sim tb ρ vh H->F xs vh=.ok v vh'->(∀ ρ' H' w,ρ<+:ρ'->Keep ρ ρ' H H'->Sim tb ρ' vh' H'->Rep ρ' H' v w->Q w H') ->
  codeAny (model P w) A (.call (.ref f) args) (fun r s'=>match r with | .ok (.ret u)=>CE outer P w H s Q u s' | _=>False) s
section
variable {tb:Tb} {P:Program} {w:World} {K:PySem.W.Frag} {mg:Str->Option Value} {base:Heap}
def cxW (P:Program) (w:World) (K:PySem.W.Frag) (mg:Str->Option Value) (base:Heap) (N:List Str) (qual:Str) (scope:Scope) (f:Addr) (cd:Value) (A:Around) (outer:List Env) (s:Shared) (H:Hp):Cx :=
 Cx.hold (cxOf (fun _ _ _ _ _ _=>False) P w K mg base N qual scope f cd { A with handled:=none } outer s H (fun _ _ _=>False)) (A.deeper (envOfC qual scope s.heap.objs.size f cd)) (fun _ _=>False)
theorem fn_W {k:Nat} {f:Addr} {name qual:Str} {params:Arguments} {body:List Stmt} {scope:Scope} {dV kV doc pm cdv ct oc:Value} {an od:Option Addr} {osl:Array (Option Value)} {N ps:List Str} {F:FF} {g:FSt}
  (lk:K.lookup f=some ⟨oc,od,.func (PySem.W.fnOf name qual params body scope dV kV doc pm an cdv ct),osl⟩) (hcd:PySem.W.codeIn K cdv qual=true) (S:FnScope N ps scope)
  (hbody:∀ (A:Around) (outer:List Env) (s:Shared) (H:Hp),RoomW k (A.deeper (envOfC qual scope s.heap.objs.size f cdv))->BOk tb (cxW P w K mg base N qual scope f cdv A outer s H) body g)
  (hF:∀ xs vh,xs.length=ps.length->runB g (startT N xs) vh=F xs vh):FnW P w K mg base tb (k + 1) f (PySem.W.fnOf name qual params body scope dV kV doc pm an cdv ct) ps F:=by
 refine ⟨fun A outer s H args us vs Q ρ vh vh' xs v hr hd e0 hb r hl rr Sm hq hQ=>?_⟩
 have KX:K.In s.heap:=e0.mod.kin.keeps fun b o e=>(e0.bs b o e).1
 have lim:s.heap.NoLimit:=e0.mod.nolimit.keeps fun b o e=>(e0.bs b o e).1
 have hkind:∀ y ∈ ps.zip us,scope.names.lookup y.1=some .local\/(scope.names.lookup y.1=some .cell/\((cellsFrom (s.heap.objs.size + 1) scope.names []).lookup y.1).isSome=true):=fun ⟨n,v⟩ hy=>by
  rcases S.par n (List.of_mem_zip hy).1 with q | q
  ·exact .inl q
  ·exact .inr ⟨q,PySem.W.cellsFrom_some _ _ _ (.inl q)⟩
 refine codeAny_call_function (by have:=hr.dp;omega) (KX _ _ lk) rfl S.co S.gen rfl (PySem.W.codeRec_of KX hcd) (hb _ _ _ _ ?_)
 refine wpAny_newFunctionEnv_cells S.kind hkind fun env he s1 x=>?_
 subst he
 refine ⟨lim.keeps x.toInCall.keep,codeAny_func ?_⟩
 have e0':Env0 P w K mg base { A with handled:=none } outer s H:=⟨e0.frames,e0.mod,e0.bs,e0.bsz,e0.funs,e0.frf,e0.hok,e0.bare⟩
 have I0:Inv (cxOf (fun _ _ _ _ _ _=>False) P w K mg base N qual scope f cdv { A with handled:=none } outer s H (fun _ _ _=>False)) [] (L2.start N vs) H s1:=inv_start S rfl e0' (by rw [rr.length,hl]) r x
 have I:Inv (cxW P w K mg base N qual scope f cdv A outer s H) [] (L2.start N vs) H s1:=inv_hold rfl I0
 have e:=hF xs vh hl
 rw [hq] at e
 unfold runB at e
 refine wpAny_mono (hbody A outer s H (hr.deeper _) [] s1 (L2.start N vs) H { nx:=fun _ H'=>Q .non H',rt:=Q } I ⟨ρ,vh,startT N xs,start_rel hd rr,Sm,?_⟩) (fun fl s' hs=>?_) fun e s' hs=>hs.elim
 ·cases eg:g (startT N xs) vh with
  | next τ vh1=>rw [eg] at e;cases e;exact fun ρ' H' σ' p1 k1 S1 _=>hQ ρ' H' .non p1 k1 S1 rfl
  | ret v vh1=>rw [eg] at e;cases e;exact hQ
  | brk _ _=>rw [eg] at e;cases e
  | cont _ _=>rw [eg] at e;cases e
  | exc _ _=>rw [eg] at e;cases e
  | bad=>rw [eg] at e;cases e
 ·have fin:∀ {σ':St} {H':Hp} {v:V} {u:Value},Inv (cxW P w K mg base N qual scope f cdv A outer s H) [] σ' H' s'->RelV v u->Q v H'->CE outer P w H s Q u s' :=
   fun {σ' H' v u} J rv q=>⟨v,H',J.os,J.bare,J.base,J.hok,rv,q⟩
  cases fl with
  | ret u =>
   obtain ⟨v,σ',H',J,rv,q⟩:=hs
   exact fin J rv q
  | next =>
   obtain ⟨σ',H',J,q⟩:=hs
   exact fin (v:=V.non) (u:=Value.none) J rfl q
  | brk =>
   obtain ⟨_,_,_,q⟩:=hs
   exact False.elim q
  | cont =>
   obtain ⟨_,_,_,q⟩:=hs
   exact False.elim q
end
section
variable {tb:Tb} {X:Cx} {pos p:Pos} {x:Str} {e:Expr} {es:List Expr} {fs:FA} {k:Nat} {f:Addr} {fd:FuncData} {ps:List Str} {F:FF}
def fCallW (F:FF) (n:Nat) (fs:FA):FE:=fun τ=>M.bind (fs τ) fun xs h=>if xs.length=n then match F xs h with
  | .ok v h'=>.ok v h'
  | _=>.bad
 else .bad
theorem e_callW (Fn:FnW X.prog X.w X.K X.mg X.base tb k f fd ps F) (hr:RoomW k X.A) (hg:Gl X x) (hm:X.mg x=some (.ref f)) (hk:PySem.W.keepIn X.K (.ref f)=true) (hb:Binds X.K fd ps [])
  (ha:AOk tb X (e :: es) fs) (hdb:(x == ("__debug__" : Str))=false:=by decide) (he:starEach (e :: es) X.env=(false,eval e X.env) :: starEach es X.env:=by rfl) (hpl:(backTo pos (starEach es X.env)).any (·.1)=false:=by rfl) :
  EOk tb X (.Call (.Name x p) (e :: es) [] pos) (fCallW F ps.length fs):=by
 intro pins s σ H Q I ⟨ρ,vh,τ,st,S,p⟩
 refine wpAny_Call_Name_kw (ld_glob I hg hm ?_ hdb)
 refine PySem.W.callWith_K (h₀:=X.base) I.ok.mod.kin hk (thn (ha pos pins s σ H (fun ws H1=>Hd X.A.handled H1/\∃ ρ1 vh1 xs,xs.length=ps.length/\Sim tb ρ1 vh1 H1/\Reps ρ1 H1 xs ws/\∃ v vh2,F xs vh1=.ok v vh2/\Post tb X σ ρ1 H1 (.ok v vh2) Q) I ⟨ρ,vh,τ,st,S,seqAE p fun vh1 ρ1 H1 v1 w1 p1 k1 S1 r1 q1=>?_⟩) fun us s1 ⟨vs,H1,I1,r,q⟩=>⟨I1.kIn,?_⟩) he hpl
 ·refine ⟨st.hd.mono k1,?_⟩
  by_cases hl:v1.length=ps.length
  ·rw [if_pos hl] at q1
   cases ef:F v1 vh1 with
   | ok v vh2=>rw [ef] at q1;exact ⟨ρ1,vh1,v1,hl,S1,r1,v,vh2,ef,q1⟩
   | exc _ _=>rw [ef] at q1;exact q1.elim
   | bad=>rw [ef] at q1;exact q1.elim
  ·rw [if_neg hl] at q1;exact q1.elim
 ·obtain ⟨hd,ρ1,vh1,xs,hl,S1,r1,v,vh2,ef,q1⟩:=q
  have hz:(us++[]).length=ps.length:=by rw [List.append_nil,<- r.length,r1.length,hl]
  have hbb:=hb s1 us I1.kIn hz
  rw [List.append_nil] at hbb
  refine wpAny_call (codeAny_mono (Fn.run X.A X.stack s1 H1 _ us vs Q ρ1 vh1 vh2 xs v hr hd I1.env0 hbb r hl r1 S1 ef q1) fun res s' hq=>?_)
  cases res with
  | ok fl =>
   cases fl with
   | ret u=>exact I1.after hq
   | next=>exact False.elim hq
   | brk=>exact False.elim hq
   | cont=>exact False.elim hq
  | error ev=>exact False.elim hq
end
end FS
namespace FS
open PySem PySem.Spec PyProof.Rows L2 FX
section
variable {tb:Tb} {X:Cx} {σ:St} {H:Hp} {s:Shared}
theorem inv_moved {h':Heap} {ch:List Addr} (I:Inv X [] σ H s) (hex:X.ex=[]) (hstk:X.stack=X.env :: X.outer/\X.env.frame=some X.env.locals) (hfn:∀ x,X.fn x=true)
  (hch:∀ b ∈ ch,H b=none/\X.s₀.heap.get? b=none/\(∀ p ∈ X.pn,p.1 ≠ b)/\∃ o fs,s.heap.get? b=some o/\o.data=.fields fs)
  (keep:∀ b o,b ∉ ch->b ∉ frs X.stack->s.heap.get? b=some o->h'.get? b=some o)
  (slot:∀ b o,b ∉ ch->s.heap.get? b=some o->∃ sl,h'.get? b=some { o with slots:=sl })
  (there:∀ b o,s.heap.get? b=some o->∃ o',h'.get? b=some o'):Inv X [] σ H { s with heap:=h' }:=by
 have frm:∀ b,b ∈ frs X.stack->b=X.env.locals\/b ∈ X.fs:=fun b hb=>by
  rcases List.mem_cons.mp (I.stkSub b hb) with z | z
  ·exact .inl z
  ·exact .inr z
 have nl:X.env.locals ∉ ch:=fun z=>by
  obtain ⟨_,_,_,o,fs,g,d⟩:=hch _ z
  obtain ⟨m,⟨o',es,ep,g',d',_⟩,_⟩:=I.loc
  rw [g] at g';cases g';rw [d] at d';cases d'
 have fsOut:X.fs ⊆ frs X.stack:=fun b hb=>by rw [hstk.1];unfold frs;rw [List.filterMap_cons,hstk.2];exact List.mem_cons_of_mem _ hb
 have locIn:X.env.locals ∈ frs X.stack:=by rw [hstk.1];unfold frs;rw [List.filterMap_cons,hstk.2];exact List.mem_cons_self
 have cellOut:∀ x c,X.env.cells.lookup x=some c->∀ v,s.heap.IsCell c v->h'.IsCell c v:=fun x c e v hv=>by
  obtain ⟨o,g,d⟩:=hv
  refine ⟨o,keep c o (fun z=>?_) (fun z=>?_) g,d⟩
  ·obtain ⟨_,_,_,o',fs,g',d'⟩:=hch _ z
   rw [g] at g';cases g';rw [d] at d';cases d'
  ·rcases frm c z with z | z
   ·obtain ⟨m,⟨o',es,ep,g',d',_⟩,_⟩:=I.loc
    rw [<- z,g] at g';cases g';rw [d] at d';cases d'
   ·obtain ⟨_,o',ho,hn⟩:=I.stack.mem (fsOut z)
    have:=I.ok.cab x c (hfn x) e
    obtain ⟨_,o2,ho2,_⟩:=I.ok.funs.mem z
    exact absurd (Nat.lt_of_lt_of_le (Heap.lt_size ho2) this) (Nat.lt_irrefl _)
 refine ⟨I.ok,I.os,I.bare,⟨fun b o q hn hb hx=>?_,fun b o q hn hb hx=>?_,I.base.free,fun b o q hx=>?_,I.base.tups,I.base.frzs,I.base.tbls⟩,?_,fun x c e=>?_,I.free,I.freeC,fun p hp=>?_,HOk.tracked I.hok fun c u v hc q=>keep c v (fun z=>by rw [(hch c z).1] at hc;cases hc) (fun z=>by rw [I.stkFree c z] at hc;cases hc) q,I.len⟩
 ·refine keep b o (fun z=>by rw [(hch b z).2.1] at q;cases q) (fun z=>?_) (I.base.keep b o q hn hb hx)
  rcases frm b z with z | z
  ·exact absurd (Nat.lt_of_lt_of_le (Heap.lt_size q) (by rw [z];exact I.ok.above)) (Nat.lt_irrefl _)
  ·exact hb z
 ·obtain ⟨sl,q1⟩:=I.base.slot b o q hn hb hx
  obtain ⟨sl2,q2⟩:=slot b _ (fun z=>by rw [(hch b z).2.1] at q;cases q) q1
  exact ⟨sl2,q2⟩
 ·obtain ⟨o1,q1⟩:=I.base.there b o q hx
  exact there b o1 q1
 ·obtain ⟨m,⟨o,es,ep,g,d,k,f⟩,hl⟩:=I.loc
  obtain ⟨sl,g'⟩:=slot _ o nl g
  refine ⟨m,⟨_,es,ep,g',d,k,f⟩,fun i x v h1 h2 h3=>?_⟩
  obtain ⟨u,ru,lk⟩:=hl i x v h1 h2 h3
  refine ⟨u,ru,?_⟩
  rcases lk with lk | ⟨k1,c,e,z⟩
  ·exact .inl lk
  ·exact .inr ⟨k1,c,e,cellOut x c e _ z⟩
 ·obtain ⟨v,q⟩:=I.cell x c e
  exact ⟨v,cellOut x c e v q⟩
 ·obtain ⟨g,n1,n2,n3,n4⟩:=I.pin p hp
  have hp':p ∈ X.pn:=by simpa using hp
  refine ⟨keep p.1 p.2 (fun z=>(hch _ z).2.2.1 p hp' rfl) (fun z=>?_) g,n1,n2,n3,n4⟩
  rcases frm _ z with z | z
  ·exact n2 z
  ·exact n3 z
structure Caught (X:Cx) (ρ:List Addr) (H:Hp) (e T:Addr) (x:XV) (dO:Option Addr) (s:Shared):Prop where
 nb:X.base.get? e=none
 nH:H e=none
 n0:X.s₀.heap.get? e=none
 np:∀ p ∈ X.pn,p.1 ≠ e
 nbT:X.base.get? T=none
 nHT:H T=none
 n0T:X.s₀.heap.get? T=none
 npT:∀ p ∈ X.pn,p.1 ≠ T
 xf:XF ρ H dO x
 fly:∃ n,5 < n/\Fly s.heap e (.ref x.cls) n T .none dO
theorem catchA {ρ:List Addr} {x:XV} {vh:VH} {ev:Value} {Q:Shared->Prop} {E:Value->Shared->Prop} (hex:X.ex=[]) (hstk:X.stack=X.env :: X.outer/\X.env.frame=some X.env.locals) (hfn:∀ x,X.fn x=true) (q:XPost tb X σ ρ H x vh ev s)
  (k:∀ ρ' H' e T dO s',ρ<+:ρ'->Keep ρ ρ' H H'->ev=.ref e->Inv X [] σ H' s'->Sim tb ρ' vh H'->Caught X ρ' H' e T x dO s'->Q s') :
  wpAny (model X.prog X.w) X.A (noteFrame ev X.env) (fun _ s₂=>wpAny (model X.prog X.w) X.A (setFlight ev none) (fun _ s₃=>Q s₃) E s₂) E s:=by
 obtain ⟨ρ',H',e,p1,k1,I,S1,rfl,xe⟩:=q
 obtain ⟨dO,f1,stage⟩:=xe.stage
 have hfr:X.A.frames=some (X.env :: X.outer):=by rw [<- hstk.1];exact I.ok.frames
 have hl:s.heap.FunFrames X.base (X.env :: X.outer):=by rw [<- hstk.1];exact I.stack
 have n0:X.s₀.heap.get? e=none:=xe.n0 hex
 have frE:(X.env :: X.outer).filterMap (·.frame)=frs X.stack:=by rw [hstk.1];rfl
 have fin:∀ {h1 h2:Heap} {T':Addr} {Told:Option Addr} {n:Nat},Gone ((X.env :: X.outer).filterMap (·.frame)) e Told s.heap h1->s.heap.get? T'=none->(∃ oe fs,s.heap.get? e=some oe/\oe.data=.fields fs)->(∀ t,Told=some t->H' t=none/\X.s₀.heap.get? t=none/\(∀ p ∈ X.pn,p.1 ≠ t)/\∃ ot ts,s.heap.get? t=some ot/\ot.data=.fields ts) ->
   (∀ b o,b ≠ T'->h1.get? b=some o->h2.get? b=some o)->(∃ o',h2.get? T'=some o')->5 < n->Fly h2 e (.ref x.cls) n T' .none dO->Q { s with heap:=h2 }:=by
  intro h1 h2 T' Told n g newT he hT kp thT hn fly
  have nT':∀ b o,s.heap.get? b=some o->b ≠ T':=fun b o q z=>by rw [z,newT] at q;cases q
  have s0T:X.s₀.heap.get? T'=none:=by
   cases z:X.s₀.heap.get? T' with
   | none=>rfl
   | some o=>obtain ⟨o',q⟩:=I.base.there T' o z (by rw [hex];simp);rw [newT] at q;cases q
  have hT0:H' T'=none:=by
   cases z:H' T' with
   | none=>rfl
   | some u =>
    have ok:=I.hok T' u z
    obtain ⟨o,q⟩:∃ o,s.heap.get? T'=some o:=by
     cases u with
     | lst xs=>obtain ⟨_,_,_,_,e⟩:=ok;exact ⟨_,e⟩
     | tup xs=>obtain ⟨_,_,_,o,e,_⟩:=ok;exact ⟨_,e⟩
     | dK kvs=>obtain ⟨_,_,_,_,o,_,_,e,_⟩:=ok;exact ⟨_,e⟩
     | dT kvs=>obtain ⟨_,_,_,_,o,_,_,e,_⟩:=ok;exact ⟨_,e⟩
     | set S n=>obtain ⟨o,_,_,_,e,_⟩:=ok;exact ⟨_,e⟩
     | ins C dx fs=>obtain ⟨_,_,_,e,_⟩:=ok;exact ⟨_,e⟩
     | own y=>obtain ⟨_,e⟩:=ok;exact ⟨_,e⟩
     | xd fs=>obtain ⟨_,⟨_,_,_,e,_⟩,_⟩:=ok;exact ⟨_,e⟩
     | rng lo hi=>obtain ⟨_,_,_,e⟩:=ok;exact ⟨_,e⟩
     | frz ob u=>obtain ⟨e,_⟩:=ok;exact ⟨_,e⟩
     | tbl ps=>exact ⟨_,ok⟩
     | met f y=>exact ⟨_,ok⟩
     | ext φ=>obtain ⟨_,⟨_,e⟩,_⟩:=ok;exact ⟨_,e⟩
    rw [newT] at q;cases q
  have I2:Inv X [] σ H' { s with heap:=h2 }:=by
   refine inv_moved (ch:=e :: Told.toList) I hex hstk hfn (fun b hb=>?_) (fun b o hb hf q=>?_) (fun b o hb q=>?_) (fun b o q=>?_)
   ·rcases List.mem_cons.mp hb with rfl | hb
    ·exact ⟨xe.nH,n0,xe.np,he⟩
    ·exact hT b (by simpa using hb)
   ·have h1':b ≠ e:=fun z=>hb (by rw [z];exact List.mem_cons_self)
    have h2':Told ≠ some b:=fun z=>hb (by rw [z];simp)
    exact kp b o (nT' b o q) (g.keep b o h1' h2' (by rw [frE];exact hf) q)
   ·have h1':b ≠ e:=fun z=>hb (by rw [z];exact List.mem_cons_self)
    have h2':Told ≠ some b:=fun z=>hb (by rw [z];simp)
    obtain ⟨sl,q1⟩:=g.slot b o h1' h2' q
    exact ⟨sl,kp b _ (nT' b o q) q1⟩
   ·obtain ⟨o',q1⟩:=g.there b o q
    exact ⟨o',kp b _ (nT' b o q) q1⟩
  refine k ρ' H' e T' dO _ p1 k1 rfl I2 S1 ⟨xe.nb,xe.nH,n0,xe.np,?_,hT0,s0T,fun p hp z=>?_,f1,n,hn,fly⟩
  ·cases z:X.base.get? T' with
   | none=>rfl
   | some o=>have:=I.bk T' o z;rw [newT] at this;cases this
  ·have:=(I.pin p (List.mem_append_left _ hp)).1
   rw [z,newT] at this;cases this
 rcases stage with ⟨n,hn,fr⟩ | ⟨T,n,hn,fl,nbT,nHT,n0T,npT⟩
 ·refine note_fresh (by omega) hfr hl hstk.2 fr fun h1 T' g newT fly=>flight_none fly fun h2 kp thT _ fly2=>?_
  obtain ⟨oe,fs,ge,_,de,_⟩:=fr
  exact fin g newT ⟨oe,fs,ge,de⟩ (fun t z=>nomatch z) kp thT hn fly2
 ·refine note_fly (by omega) hfr hl hstk.2 fl fun h1 T' g newT fly=>flight_none fly fun h2 kp thT _ fly2=>?_
  obtain ⟨oe,vs,oT,ts,ge,_,de,_,_,_,_,gT,dT,_⟩:=fl
  refine fin g newT ⟨oe,vs,ge,de⟩ (fun t z=>?_) kp thT hn fly2
  cases z
  exact ⟨nHT,n0T hex,npT,oT,ts,gT,dT⟩
theorem catchB {ρ:List Addr} {x:XV} {vh:VH} {e T:Addr} {dO:Option Addr} {A:Around} {Q:Unit->Shared->Prop} {E:Value->Shared->Prop} (hex:X.ex=[]) (hstk:X.stack=X.env :: X.outer/\X.env.frame=some X.env.locals) (hfn:∀ x,X.fn x=true)
  (I:Inv X [] σ H s) (S:Sim tb ρ vh H) (c:Caught X ρ H e T x dO s)
  (k:∀ H' s',Keep ρ ρ H H'->Inv X [] σ H' s'->Sim tb ρ vh H'->Rep ρ H' (.exc x.cls x.ns x.xs) (.ref e)->H' e=some (.ext (ExcPhi e x.cls dO))->Q () s'):wpAny (model X.prog X.w) A (setFlight (.ref e) none) Q E s:=by
 obtain ⟨n,hn,fl⟩:=c.fly
 refine flight_none fl fun h2 kp thT nn fly2=>?_
 obtain ⟨oe,vs,oT,ts,ge,_,de,_,_,_,nTe,gT,dT,_⟩:=fl
 have I2:Inv X [] σ H { s with heap:=h2 }:=by
  refine inv_moved (ch:=[T]) I hex hstk hfn (fun b hb=>?_) (fun b o hb hf q=>kp b o (fun z=>hb (by simp [z])) q) (fun b o hb q=>⟨o.slots,kp b o (fun z=>hb (by simp [z])) q⟩) (fun b o q=>?_)
  ·have:b=T:=by simpa using hb
   subst this
   exact ⟨c.nHT,c.n0T,c.npT,oT,ts,gT,dT⟩
  ·by_cases z:b=T
   ·subst z;exact thT
   ·exact ⟨o,kp b o z q⟩
 obtain ⟨oe2,vs2,_,_,ge2,⟨ce2,dd2⟩,de2,sz2,_,cx2,_⟩:=fly2
 have kH:Keep ρ ρ H (upd H e (.ext (ExcPhi e x.cls dO))):=Keep.new c.nH
 have phi:ExcPhi e x.cls dO h2:=⟨oe2,vs2,ge2,ce2,dd2,de2,cx2,by rw [sz2];exact hn⟩
 have okE:ObjOk X.prog X.w (upd H e (.ext (ExcPhi e x.cls dO))) h2 e (.ext (ExcPhi e x.cls dO)):=⟨phi,⟨oe2,ge2⟩,fun g1 g2 hp hk=>by
  obtain ⟨o,f,g,r⟩:=hp
  exact ⟨o,f,hk o g,r⟩⟩
 have I3:Inv X [] σ (upd H e (.ext (ExcPhi e x.cls dO))) { s with heap:=h2 }:=by
  refine ⟨I2.ok,I2.os,I2.bare,⟨I2.base.keep,I2.base.slot,fun b o q hb hx=>?_,I2.base.there,fun b xs q=>?_,fun b o u q=>?_,fun b ps q=>?_⟩,I2.loc,I2.cell,?_,fun y cc e'=>?_,fun p hp=>?_,?_,I2.len⟩
  ·have hne:b ≠ e:=fun z=>by rw [z,c.n0] at q;cases q
   rw [upd_ne hne];exact I2.base.free b o q hb hx
  ·have:=I2.base.tups b xs q
   rw [upd_ne (ne_of_none this c.nH)];exact this
  ·have:=I2.base.frzs b o u q
   rw [upd_ne (ne_of_none this c.nH)];exact this
  ·obtain ⟨more,this⟩:=I2.base.tbls b ps q
   exact ⟨more,by rw [upd_ne (ne_of_none this c.nH)];exact this⟩
  ·rw [upd_ne (fun z=>?_)]
   ·exact I2.free
   ·obtain ⟨m,⟨o',es,ep,g',d',_⟩,_⟩:=I2.loc
    have g'':h2.get? e=some o':=by rw [<- z];exact g'
    rw [ge2] at g'';cases g'';rw [de2] at d';cases d'
  ·rw [upd_ne (fun z=>?_)]
   ·exact I2.freeC y cc e'
   ·obtain ⟨v,o',g',d'⟩:=I2.cell y cc e'
    have g'':h2.get? e=some o':=by rw [<- z];exact g'
    rw [ge2] at g'';cases g'';rw [de2] at d';cases d'
  ·obtain ⟨g,n1,r⟩:=I2.pin p hp
   have hp':p ∈ X.pn:=by simpa using hp
   exact ⟨g,by rw [upd_ne (c.np p hp')];exact n1,r⟩
  ·intro a o ha
   by_cases hz:a=e
   ·subst hz
    rw [upd_same] at ha;cases ha
    exact okE
   ·rw [upd_ne hz] at ha
    exact (I2.hok a o ha).stay (fun b u _ q=>q) (fun b q=>by rw [upd_ne (ne_of_none q c.nH)];exact q) fun b xs q=>by rw [upd_ne (ne_of_none q c.nH)];exact q
 refine k _ _ kH I3 (S.side c.nH) ⟨e,dO,rfl,upd_same,?_⟩ upd_same
 rcases c.xf with z | ⟨d,ws,q1,q2,q3,q4⟩
 ·exact .inl z
 ·exact .inr ⟨d,ws,q1,kH.imm _ _ trivial q2,q3,q4.mono List.prefix_rfl kH⟩
end
end FS
namespace FS
open PySem PySem.Spec PyProof.Rows L2 FX
def excBm (K:PySem.W.Frag) (C:Addr):Option (List Value):=match K.lookup C with
 | some ⟨.type "type",_,.cls cd,sl⟩=>(match cd.mro,sl.toList with
  | .ref C' :: bm,[_,_,_,_,some (.builtin _),_]=>if (C' == C && !cd.hasDel)=true then some bm else none
  | _,_=>none)
 | _=>none
theorem excBm_of {K:PySem.W.Frag} {C:Addr} {bm:List Value} (h:excBm K C=some bm):∃ nm q N bs hdct sn sub ab col dd k0 k1 k2 k3 k5 newId,K.lookup C=some (excClassObj nm q C N bs bm hdct sn sub ab col dd k0 k1 k2 k3 k5 newId):=by
 unfold excBm at h
 split at h
 ·rename_i dd cd sl ho
  split at h
  ·rename_i C' bm' k0 k1 k2 k3 n k5 hm hs
   split at h
   ·rename_i hc
    cases h
    simp only [Bool.and_eq_true,beq_iff_eq,Bool.not_eq_true'] at hc
    obtain ⟨rfl,hdel⟩:=hc
    obtain ⟨nm,bs,mro,ns,qn,hd,sn,sub,ab,col,del⟩:=cd
    dsimp only at hm hdel
    subst hm hdel
    have hsl:sl=#[k0,k1,k2,k3,some (.builtin n),k5]:=by
     obtain ⟨l⟩:=sl
     simp only at hs
     rw [hs]
    subst hsl
    exact ⟨nm,qn,ns,bs,hd,sn,sub,ab,col,dd,k0,k1,k2,k3,k5,n,ho⟩
   ·cases h
  ·cases h
 ·cases h
abbrev STab:=List (Addr × Addr × Bool)
def STabK (K:PySem.W.Frag) (st:STab):Prop:=∀ r ∈ st,∃ b1 b2,excBm K r.1=some b1/\excBm K r.2.1=some b2/\b2.contains (.type "BaseException")=true/\(Value.ref r.1 :: b1).contains (.ref r.2.1)=r.2.2
def subOf (st:STab) (C D:Addr):Option Bool:=(st.find? fun r=>r.1 == C && r.2.1 == D).map (·.2.2)
section
variable {tb:Tb} {X:Cx}
theorem match_own {st:STab} {C D e:Addr} {oe:Obj} {b:Bool} {s:Shared} {M:Model} {A:Around} {E:Value->Shared->Prop} {Q:Bool->Shared->Prop} {K:PySem.W.Frag} (hst:STabK K st) (hs:subOf st C D=some b) (kin:K.In s.heap) (he:s.heap.get? e=some oe) (hc:oe.cls=.ref C) (hq:Q b s) :
  wpAny M A (excMatches (.ref e) (.ref D)) Q E s:=by
 unfold subOf at hs
 obtain ⟨r,hr,rfl⟩:=Option.map_eq_some_iff.mp hs
 have hm:=List.mem_of_find?_eq_some hr
 have hp:=List.find?_some hr
 rw [Bool.and_eq_true] at hp
 have e1:r.1=C:=beq_iff_eq.mp hp.1
 have e2:r.2.1=D:=beq_iff_eq.mp hp.2
 obtain ⟨b1,b2,h1,h2,h3,h4⟩:=hst r hm
 rw [e1] at h1 h4
 rw [e2] at h2 h4
 obtain ⟨_,_,_,_,_,_,_,_,_,_,_,_,_,_,_,_,g1⟩:=excBm_of h1
 obtain ⟨_,_,_,_,_,_,_,_,_,_,_,_,_,_,_,_,g2⟩:=excBm_of h2
 obtain ⟨hh,g,d,t,os⟩:=s
 exact matches_own (kin _ _ g1) (kin _ _ g2) he hc h3 (by rw [h4];exact hq)
theorem inv_names {pins:List (Addr × Obj)} {σ:St} {H:Hp} {s:Shared} {h':Heap} {t':Nat} {m':Str->Option Value} (I:Inv X pins σ H s) (hn:h'.Ns X.env.locals m') (hs:Heap.SameBut X.env.locals s.heap h') (hfs:X.env.locals ∉ X.fs):Inv X pins (List.replicate X.N.length none) H { s with heap:=h',toks:=t' }:=by
 have keep:∀ b o,b ≠ X.env.locals->s.heap.get? b=some o->h'.get? b=some o:=fun b o hb e=>(hs.2 b hb).trans e
 have old:∀ b o,X.s₀.heap.get? b=some o->b ≠ X.env.locals:=fun b o q z=>absurd (Nat.lt_of_lt_of_le (Heap.lt_size q) (by rw [z];exact I.ok.above)) (Nat.lt_irrefl _)
 obtain ⟨m,⟨oL,esL,epL,gL,dL,_⟩,_⟩:=I.loc
 refine ⟨I.ok,I.os,I.bare,⟨fun b o q hn hb hx=>keep b o (old b o q) (I.base.keep b o q hn hb hx),fun b o q hn hb hx=>?_,I.base.free,fun b o q hx=>?_,I.base.tups,I.base.frzs,I.base.tbls⟩,⟨m',hn,fun i x v h1 h2=>?_⟩,fun x c e=>?_,I.free,I.freeC,fun p hp=>?_,HOk.tracked I.hok fun c u v hc q=>keep c v (fun z=>by rw [z,I.free] at hc;cases hc) q,by simp⟩
 ·obtain ⟨sl,q1⟩:=I.base.slot b o q hn hb hx
  exact ⟨sl,keep b _ (old b o q) q1⟩
 ·obtain ⟨o1,q1⟩:=I.base.there b o q hx
  exact ⟨o1,keep b _ (old b o q) q1⟩
 ·rw [List.getElem?_replicate] at h2
  split at h2 <;> cases h2
 ·obtain ⟨v,o,g,d⟩:=I.cell x c e
  refine ⟨v,o,keep c o (fun z=>?_) g,d⟩
  rw [z,gL] at g;cases g;rw [dL] at d;cases d
 ·obtain ⟨g,r⟩:=I.pin p hp
  exact ⟨keep _ _ r.2.1 g,r⟩
abbrev FH:=XV->VH->Fl
def HsOk (tb:Tb) (X:Cx) (hs:List ExceptHandler) (fh:FH):Prop:=∀ (σ:St) (H:Hp) (s:Shared) (ρ:List Addr) (vh:VH) (x:XV) (e T:Addr) (dO:Option Addr) (D:Ends),Inv X [] σ H s->Sim tb ρ vh H->Caught X ρ H e T x dO s->PostS tb X ρ H (fh x vh) D ->
 wpAny (model X.prog X.w) X.A (handleBy (.ref e) X.env hs) (SP X [] D) X.xe s
def hNil:FH:=fun _ _=>.bad
def hCons (st:STab) (D:Addr) (i n:Nat) (f:FSt) (rest:FH):FH:=fun x h=>match subOf st x.cls D with
 | some true=>match f ((List.replicate n none).set i (some (.exc x.cls x.ns x.xs))) h with
  | .ret v h'=>.ret v h'
  | _=>.bad
 | some false=>rest x h
 | none=>.bad
theorem hs_nil:HsOk tb X [] hNil:=fun σ H s ρ vh x e T dO D I S c p=>p.elim
theorem hs_cons {st:STab} {D:Addr} {i:Nat} {cn n:Str} {np hpos:Pos} {b₀:Stmt} {suite:List Stmt} {hs:List ExceptHandler} {f:FSt} {rest:FH} (hex:X.ex=[]) (hstk:X.stack=X.env :: X.outer/\X.env.frame=some X.env.locals) (hfn:∀ x,X.fn x=true)
  (hst:STabK X.K st) (hg:Gl X cn) (hm:X.mg cn=some (.ref D)) (hN:X.N.Nodup) (hi:X.N[i]?=some n) (hl:X.env.scope.names.lookup n=some .local)
  (hb:∀ e:Addr,BOk tb (Cx.hold X (X.A.mark (some (.ref e))) (fun _ _=>False)) (b₀ :: suite) f) (hr:HsOk tb X hs rest) (hdb:(cn == ("__debug__" : Str))=false:=by decide) :
  HsOk tb X (.ExceptHandler (some (.Name cn np)) (some n) (b₀ :: suite) hpos :: hs) (hCons st D i X.N.length f rest):=by
 intro σ H s ρ vh x e T dO Dn I S c p
 have hfs:X.env.locals ∉ X.fs:=fun z=>absurd (Nat.lt_of_lt_of_le (Heap.lt_size (I.ok.funs.mem z).2.choose_spec.1) I.ok.above) (Nat.lt_irrefl _)
 refine wpAny_handleBy_cons ?_ (fun z=>nomatch z)
 unfold hCons at p
 cases es:subOf st x.cls D with
 | none=>rw [es] at p;exact p.elim
 | some b =>
  rw [es] at p
  have I1:Inv (Cx.hold X (X.A.mark (some (.ref e))) (fun _ _=>False)) [] σ H s:=inv_hold rfl I
  refine codeAny_handlers_test (ld_glob I1 hg hm ?_ hdb)
  obtain ⟨nn,hn5,oe,vs,oT,ts,ge,⟨ce,_⟩,_⟩:=c.fly
  refine match_own hst es I.kIn ge ce ?_
  cases b with
  | false=>exact hr σ H s ρ vh x e T dO Dn I S c p
  | true =>
   dsimp only at p ⊢
   refine codeAny_handlers_suite_as (catchB (A:=X.A.mark (some (.ref e))) hex hstk hfn I S c fun H1 s1 k1 I2 S2 r2 he2=>?_)
   refine store_ok (v:=.ref e) (u:=.ref e) I2 hN hi (.inl hl) rfl (fun s2 I4'=>?_) (.inr hl)
   have I4:Inv (Cx.hold X (X.A.mark (some (.ref e))) (fun _ _=>False)) [] (σ.set i (some (.ref e))) H1 s2:=inv_hold rfl I4'
   have st0:StRel (some (.ref e)) ρ H1 ((List.replicate X.N.length none).set i (some (.exc x.cls x.ns x.xs))) (σ.set i (some (.ref e))):=by
    refine StRel.set ⟨.inr ⟨e,x.cls,dO,rfl,he2⟩,by simp [I.len],fun j y ej=>?_⟩ r2
    rw [List.getElem?_replicate] at ej
    split at ej <;> cases ej
   cases ef:f ((List.replicate X.N.length none).set i (some (.exc x.cls x.ns x.xs))) vh with
   | ret v h' =>
    rw [ef] at p
    refine wpAny_mono (hb e [] s2 (σ.set i (some (.ref e))) H1 { nx:=fun _ _=>False,rt:=Dn.rt } I4 ⟨ρ,vh,_,st0,S2,?_⟩) (fun fl s3 q=>?_) fun _ _ z=>z.elim
    ·rw [ef];exact fun ρ' H' w p' k'=>p ρ' H' w p' (k1.trans k')
    ·cases fl with
     | ret u =>
      obtain ⟨v',σ',H',J,rv,q⟩:=q
      have J':=inv_unhold I.ok J
      obtain ⟨m,hm',_⟩:=J'.loc
      refine wpAny_nameGoes (env:=X.env) hl hm' (by rw [J'.ok.kind];rfl) fun h2 m2 hn2 hs2=>?_
      exact ⟨v',_,H',inv_names J' hn2 hs2 hfs,rv,q⟩
     | next=>obtain ⟨_,_,_,q⟩:=q;exact q.elim
     | brk=>obtain ⟨_,_,_,q⟩:=q;exact q.elim
     | cont=>obtain ⟨_,_,_,q⟩:=q;exact q.elim
   | next _ _=>rw [ef] at p;exact p.elim
   | brk _ _=>rw [ef] at p;exact p.elim
   | cont _ _=>rw [ef] at p;exact p.elim
   | exc _ _=>rw [ef] at p;exact p.elim
   | bad=>rw [ef] at p;exact p.elim
end
end FS
namespace FS
open PySem PySem.Spec PyProof.Rows L2 FX
section
variable {tb:Tb} {X:Cx}
theorem leave_G {H0 : Hp} {E : XK} {σ : St} {ρ : List Addr} {x : XV} {vh : VH} {ev : Value} {s' : Shared} {R : Value->Shared->Prop} (hex : X.ex = []) (hstk : X.stack = X.env :: X.outer/\X.env.frame = some X.env.locals)
    (hE : ∀ ρ' H' dO, ρ<+:ρ'->Keep ρ ρ' H0 H'->Sim tb ρ' vh H'->XF ρ' H' dO x->E (.ref x.cls) dO H')
    (q : XPost tb X σ ρ H0 x vh ev s') : wpAny (model X.prog X.w) X.A (leaving X.env ev) (fun _ s'' => CXF X.prog X.w X.base X.outer X.H₀ X.s₀ E ev s'') R s' := by
  obtain ⟨ρ', H', e, p1, k1, I, S1, rfl, xe⟩ := q
  obtain ⟨dO, f1, stage⟩ := xe.stage
  have hfr : X.A.frames = some (X.env :: X.outer) := by rw [<- hstk.1]; exact I.ok.frames
  have hl : s'.heap.FunFrames X.base (X.env :: X.outer) := by rw [<- hstk.1]; exact I.stack
  have n0 : X.s₀.heap.get? e = none := xe.n0 hex
  have frE : (X.env :: X.outer).filterMap (·.frame) = frs X.stack := by rw [hstk.1]; rfl
  have fin : ∀ {h1 h2 : Heap} {T T' : Addr} {Told : Option Addr} {n : Nat}, Gone ((X.env :: X.outer).filterMap (·.frame)) e Told s'.heap h1->s'.heap.get? T' = none->(∀ t, Told = some t->H' t = none/\X.s₀.heap.get? t = none/\∃ ot ts, s'.heap.get? t = some ot/\ot.data = .fields ts) ->
      (∀ b o, b ≠ T'->h1.get? b = some o->h2.get? b = some o)->(∃ o', h2.get? T' = some o')->5 < n->Fly h2 e (.ref x.cls) n T' .none dO->CXF X.prog X.w X.base X.outer X.H₀ X.s₀ E (.ref e) { s' with heap := h2 } := by
    intro h1 h2 T T' Told n g newT hT kp thT hn fly
    have nT' : ∀ b o, s'.heap.get? b = some o->b ≠ T' := fun b o q z => by rw [z, newT] at q; cases q
    have frT : ∀ {b u}, H' b = some u->b ∉ (X.env :: X.outer).filterMap (·.frame) := fun {b u} hu hb => by
      have := I.stkFree b (by rw [<- frE]; exact hb); rw [hu] at this; cases this
    have sT' : X.s₀.heap.get? T' = none := by
      cases z : X.s₀.heap.get? T' with
      | none => rfl
      | some o => obtain ⟨o', q⟩ := I.base.there T' o z (by rw [hex]; simp); rw [newT] at q; cases q
    refine ⟨e, _, H', T', n, dO, rfl, I.os, I.bare, ⟨fun b o q hn hb hx => ?_, fun b o q hn hb hx => ?_, fun b o q hn hx => I.base.free b o q hn (by rw [hex]; simp), fun b o q hx => ?_, I.base.tups, I.base.frzs, I.base.tbls⟩, ?_, xe.nb, xe.nH, n0, ?_, ?_, sT', hn, fly, hE ρ' H' dO p1 k1 S1 f1⟩
    · have q1 := I.base.keep b o q hn hb (by rw [hex]; simp)
      refine kp b o (nT' b o q1) (g.keep b o (fun z => by rw [z, n0] at q; cases q) (fun z => by rw [(hT b z).2.1] at q; cases q) (fun z => ?_) q1)
      rcases List.mem_cons.mp (I.stkSub b (by rw [<- frE]; exact z)) with z | z
      · exact absurd (Nat.lt_of_lt_of_le (Heap.lt_size q) (by rw [z]; exact I.ok.above)) (Nat.lt_irrefl _)
      · exact hb z
    · obtain ⟨sl, q1⟩ := I.base.slot b o q hn hb (by rw [hex]; simp)
      obtain ⟨sl2, q2⟩ := g.slot b _ (fun z => by rw [z, n0] at q; cases q) (fun z => by rw [(hT b z).2.1] at q; cases q) q1
      exact ⟨sl2, kp b _ (nT' b _ q1) q2⟩
    · obtain ⟨o1, q1⟩ := I.base.there b o q (by rw [hex]; simp)
      obtain ⟨o2, q2⟩ := g.there b o1 q1
      exact ⟨o2, kp b o2 (nT' b o1 q1) q2⟩
    · refine HOk.tracked I.hok fun c u v hc q => kp c v (nT' c v q) (g.keep c v (fun z => by rw [z, xe.nH] at hc; cases hc) (fun z => by rw [(hT c z).1] at hc; cases hc) (frT hc) q)
    · cases z : X.base.get? T' with
      | none => rfl
      | some o => have := I.bk T' o z; rw [newT] at this; cases this
    · cases z : H' T' with
      | none => rfl
      | some u => have := (I.hok T' u z).lt; obtain ⟨o, q⟩ : ∃ o, s'.heap.get? T' = some o := by
                    have ok := I.hok T' u z
                    cases u with
                    | lst xs => obtain ⟨_, _, _, _, e⟩ := ok; exact ⟨_, e⟩
                    | tup xs => obtain ⟨_, _, _, o, e, _⟩ := ok; exact ⟨_, e⟩
                    | dK kvs => obtain ⟨_, _, _, _, o, _, _, e, _⟩ := ok; exact ⟨_, e⟩
                    | dT kvs => obtain ⟨_, _, _, _, o, _, _, e, _⟩ := ok; exact ⟨_, e⟩
                    | set S n => obtain ⟨o, _, _, _, e, _⟩ := ok; exact ⟨_, e⟩
                    | ins C dx fs => obtain ⟨_, _, _, e, _⟩ := ok; exact ⟨_, e⟩
                    | own y => obtain ⟨_, e⟩ := ok; exact ⟨_, e⟩
                    | xd fs => obtain ⟨_, ⟨_, _, _, e, _⟩, _⟩ := ok; exact ⟨_, e⟩
                    | rng lo hi => obtain ⟨_, _, _, e⟩ := ok; exact ⟨_, e⟩
                    | frz ob u => obtain ⟨e, _⟩ := ok; exact ⟨_, e⟩
                    | tbl ps => exact ⟨_, ok⟩
                    | met f y => exact ⟨_, ok⟩
                    | ext φ => obtain ⟨_, ⟨_, e⟩, _⟩ := ok; exact ⟨_, e⟩
                  rw [newT] at q; cases q
  unfold leaving
  rcases stage with ⟨n, hn, fr⟩ | ⟨T, n, hn, fl, nbT, nHT, n0T, npT⟩
  · refine wpAny_bind (note_fresh (by omega) hfr hl hstk.2 fr fun h1 T' g newT fly => flight_none fly fun h2 kp thT _ fly2 => ?_)
    exact fin (T := T') g newT (fun t z => nomatch z) kp thT hn fly2
  · refine wpAny_bind (note_fly (by omega) hfr hl hstk.2 fl fun h1 T' g newT fly => flight_none fly fun h2 kp thT _ fly2 => ?_)
    refine fin (T := T') g newT (fun t z => ?_) kp thT hn fly2
    cases z
    obtain ⟨_, _, oT, ts, _, _, _, _, _, _, _, gT, dT, _⟩ := fl
    exact ⟨nHT, n0T hex, oT, ts, gT, dT⟩
theorem after_F {Y:Cx} {pins:List (Addr × Obj)} {σ:St} {H:Hp} {s s':Shared} {ρ:List Addr} {o:Out PV} {Q:VK} {r:Result} (I:Inv Y pins σ H s) (p:Post tb Y σ ρ H o Q)
  (hq:CR (CXF Y.prog Y.w Y.base) Y.stack Y.prog Y.w H s Q (fun cls d H'=>∃ x vh' ρ',o=.exc x vh'/\cls=.ref x.cls/\ρ<+:ρ'/\Keep ρ ρ' H H'/\Sim tb ρ' vh' H'/\XF ρ' H' d x) r s') :
  match r with | .ok (.ret v)=>EP Y pins σ Q v s' | .ok _=>False | .error e=>Y.xe e s':=by
 cases r with
 | ok fl =>
  cases fl with
  | ret u=>exact I.after hq
  | next=>exact False.elim hq
  | brk=>exact False.elim hq
  | cont=>exact False.elim hq
 | error ev =>
  obtain ⟨e,cls,H',T,n,dO,rfl,os,bare,un,hok,nb,nH,ns,nbT,nHT,nsT,hn,fly,x,vh1,ρ',rfl,rfl,p1,k1,S1,f1⟩:=hq
  refine p _ s' ⟨ρ',H',e,p1,k1,(I.call' (ch:=[]) os un hok bare fun b z=>absurd z (by simp)).pins_of (fun q hq=>absurd hq (by simp)),S1,rfl,⟨nb,nH,fun hx=>?_,fun q hq z=>?_,dO,f1,.inr ⟨T,n,hn,fly,nbT,nHT,fun hx=>?_,fun q hq z=>?_⟩⟩⟩
  ·cases z:Y.s₀.heap.get? e with
   | none=>rfl
   | some o=>obtain ⟨o',q⟩:=I.base.there e o z (by rw [hx];simp);rw [ns] at q;cases q
  ·have:=(I.pin q (List.mem_append_left _ hq)).1
   rw [z,ns] at this;cases this
  ·cases z:Y.s₀.heap.get? T with
   | none=>rfl
   | some o=>obtain ⟨o',q⟩:=I.base.there T o z (by rw [hx];simp);rw [nsT] at q;cases q
  ·have:=(I.pin q (List.mem_append_left _ hq)).1
   rw [z,nsT] at this;cases this
end
end FS
namespace FS
open PySem PySem.Spec PyProof.Rows L2 FX
def lamEnv (scope:Scope) (L:Addr) (clos:List (Str × Addr)) (qual:Str) (g:Addr) (cd:Value):Env :=
 { scope:=scope,locals:=L,globals:=mainGlobals,cells:=clos,qual:=qual,func:=some g,code:=cd,frame:=some L,builtins:=builtinsNs }
def cxL (Y:Cx) (xs:List Str) (env2:Env) (s:Shared) (H:Hp) (xe:Value->Shared->Prop):Cx :=
 { prog:=Y.prog,w:=Y.w,K:=Y.K,mg:=Y.mg,base:=Y.base,A:=Y.A.deeper env2,N:=xs,s₀:=s,H₀:=H,env:=env2,outer:=Y.stack,stack:=env2 :: Y.stack,ex:=[],fn:=fun _=>false,calm:=true,pn:=[],xe:=xe }
section
variable {tb:Tb} {Y:Cx} {pins:List (Addr × Obj)} {σ:St} {H:Hp} {s:Shared}
structure CellsAt (clos:List (Str × Addr)) (xs:List Str) (σZ:St) (H:Hp) (h:Heap):Prop where
 inj:∀ x y c,clos.lookup x=some c->clos.lookup y=some c->x=y
 cell:∀ x c,clos.lookup x=some c->∃ v,h.IsCell c v
 free:∀ x c,clos.lookup x=some c->H c=none
 has:∀ (i:Nat) (x:Str) (v:V),xs[i]?=some x->σZ[i]?=some (some v)->∃ u c,RelV v u/\clos.lookup x=some c/\h.IsCell c (some u)
 len:σZ.length=xs.length
theorem inv_lam {scope:Scope} {clos:List (Str × Addr)} {qual:Str} {g:Addr} {cd:Value} {xs:List Str} {σZ:St} {h4:Heap} {t4:Nat} {m0:Str->Option Value} {ob:Obj} {xe:Value->Shared->Prop} (I:Inv Y pins σ H s) (hc:Y.calm=true) (hk:scope.kind=.function)
  (hfree:∀ y ∈ scope.names,y.2 ≠ .cell/\y.2 ≠ .local/\(y.2=.free->(clos.lookup y.1).isSome=true)) (C:CellsAt clos xs σZ H s.heap) (hns:h4.Ns s.heap.objs.size m0) (hsb:Heap.SameBut s.heap.objs.size (s.heap.push ob) h4) :
  Inv (cxL Y xs (lamEnv scope s.heap.objs.size clos qual g cd) s H xe) [] σZ H { s with heap:=h4,toks:=t4 }:=by
 have kp:∀ b o,s.heap.get? b=some o->h4.get? b=some o:=fun b o e=>(hsb.2 b (Nat.ne_of_lt (Heap.lt_size e))).trans (Heap.get?_push_of_some _ e)
 have fr:∀ x k,scope.names.lookup x=some k->k ≠ .cell/\k ≠ .local/\(k=.free->(clos.lookup x).isSome=true):=fun x k e=>hfree _ (PySem.mem_of_lookup e)
 refine ⟨⟨I.ok.mod,hk,rfl,rfl,Nat.le_refl _,C.inj,fun x hx=>?_,fun _ _ z _=>absurd z Bool.false_ne_true,fun _=>I.ok.hd hc,Around.frames_deeper I.ok.frames,.inr ⟨rfl,rfl⟩,fun b hb=>absurd hb (by simp [cxL]),I.bs,Nat.le_trans I.ok.bsz I.sz,fun b _ _=>by simp [cxL],fun b hb=>absurd hb (by simp [cxL]),I.stack,I.stkFree⟩,
  rfl,I.bare,Un.kept kp,⟨m0,hns,fun i x v h1 h2 h3=>?_⟩,fun x c e=>?_,I.hok.fresh (Nat.le_refl _),C.free,fun p hp=>absurd hp (by simp [cxL]),HOk.kept I.hok kp,C.len⟩
 ·rcases hx with hx | hx
  ·exact absurd rfl (fr x _ hx).1
  ·exact Option.isSome_iff_exists.mp ((fr x _ hx).2.2 rfl)
 ·obtain ⟨u,c,ru,hc',hcell⟩:=C.has i x v h1 h2
  refine ⟨u,ru,.inr ⟨?_,c,hc',hcell.keeps kp⟩⟩
  have hv:Vis scope x:=h3
  rcases hv with hv | hv | hv
  ·exact absurd rfl (fr x _ hv).2.1
  ·exact absurd rfl (fr x _ hv).1
  ·exact .inr hv
 ·obtain ⟨v,q⟩:=C.cell x c e
  exact ⟨v,q.keeps kp⟩
theorem run_lam {scope:Scope} {clos:List (Str × Addr)} {name qual:Str} {params:Arguments} {body:Expr} {pm ctv:Value} {g c':Addr} {xs:List Str} {σZ:St} {τZ:Tau} {fE:FE} {ρ:List Addr} {vh:VH} {Q:VK} (I:Inv Y pins σ H s) (hc:Y.calm=true)
  (ho:s.heap.get? g=some (PySem.W.kla_obj name qual params body scope clos pm c' ctv)) (hcd:s.heap.CodeRec (.ref c') qual) (hbind:bindArgs (PySem.W.kla_fn name qual params body scope clos pm (.ref c') ctv) ⟨[],[]⟩=pure [])
  (hroom:Y.A.depth < recursionLimit) (hk:scope.kind=.function) (hco:scope.isCoroutine=false) (hgen:scope.isGenerator=false) (hfree:∀ y ∈ scope.names,y.2 ≠ .cell/\y.2 ≠ .local/\(y.2=.free->(clos.lookup y.1).isSome=true)) (C:CellsAt clos xs σZ H s.heap)
  (hE:∀ (L:Addr) (s:Shared) (H:Hp) (xe:Value->Shared->Prop),EOk tb (cxL Y xs (lamEnv scope L clos (qual++".<locals>.") g (.ref c')) s H xe) body fE) (st:StRel Y.A.handled ρ H τZ σZ) (S:Sim tb ρ vh H) (p:Post tb Y σ ρ H (fE τZ vh) Q) :
  codeAny (model Y.prog Y.w) Y.A (.call (.ref g) ⟨[],[]⟩) (fun r s'=>match r with | .ok (.ret v)=>EP Y pins σ Q v s' | .ok _=>False | .error e=>Y.xe e s') s:=by
 refine PySem.W.kla_callFunE hroom ho rfl hco hgen rfl hcd ?_
 rw [hbind]
 refine wpAny_pure (wpAny_newFunctionEnv (fun x hx=>?_) (fun _ h=>absurd h (by simp)) (fun h4 hns hsb=>⟨?_,?_⟩) hk)
 ·exact (hfree x hx).1
 ·exact I.nolimit.fresh _ hsb
 ·show codeAny _ _ (.expr body (lamEnv scope s.heap.objs.size clos (qual++".<locals>.") g (.ref c'))) _ _
  refine PySem.W.kla_codeExpr ?_
  have J:=inv_lam (qual:=qual++".<locals>.") (g:=g) (cd:=.ref c') (t4:=s.toks + ([]:List (Str × Value)).length) (xe:=fun e s1=>wpAny (model Y.prog Y.w) (Y.A.deeper (lamEnv scope s.heap.objs.size clos (qual++".<locals>.") g (.ref c'))) (leaving (lamEnv scope s.heap.objs.size clos (qual++".<locals>.") g (.ref c')) e) (fun _ s''=>Y.xe e s'') (fun e'' s''=>Y.xe e'' s'') s1) I hc hk hfree C hns hsb
  refine wpAny_mono (hE s.heap.objs.size s H _ [] _ σZ H Q J ⟨ρ,vh,τZ,st,S,?_⟩) (fun v s' q=>?_) fun _ _ z=>z
  ·cases ef:fE τZ vh with
   | ok v vh1=>rw [ef] at p;exact p
   | bad=>rw [ef] at p;exact p
   | exc x vh1 =>
    rw [ef] at p
    intro ev s1 q1
    have lg:=leave_G (X:=cxL Y xs (lamEnv scope s.heap.objs.size clos (qual++".<locals>.") g (.ref c')) s H (fun e s1=>wpAny (model Y.prog Y.w) (Y.A.deeper (lamEnv scope s.heap.objs.size clos (qual++".<locals>.") g (.ref c'))) (leaving (lamEnv scope s.heap.objs.size clos (qual++".<locals>.") g (.ref c')) e) (fun _ s''=>Y.xe e s'') (fun e'' s''=>Y.xe e'' s'') s1)) (H0:=H) (E:=fun cls d H'=>∃ x' vh' ρ',fE τZ vh=.exc x' vh'/\cls=.ref x'.cls/\ρ<+:ρ'/\Keep ρ ρ' H H'/\Sim tb ρ' vh' H'/\XF ρ' H' d x')
     (R:=fun e'' s''=>Y.xe e'' s'') rfl ⟨rfl,rfl⟩ (fun ρ' H' dO p1 k1 S1 f1=>⟨x,vh1,ρ',ef,rfl,p1,k1,S1,f1⟩) q1
    refine wpAny_mono lg (fun _ s'' hq=>?_) fun _ _ z=>z
    rw [<- ef] at p
    exact after_F (r:=.error ev) I p hq
  ·obtain ⟨w,H',J',rv,q⟩:=q
   exact I.after ⟨w,H',J'.os,J'.bare,J'.base,J'.hok,rv,q⟩
end
end FS
namespace FS
open PySem PySem.Spec PyProof.Rows L2 FX
theorem among_more {pos:Pos} {cv:Value} (m:List Value):∀ (l:List Value),TriplesOk l->codeAmong pos l=some cv->codeAmong pos (l++m)=some cv:=fun l h hs=>by
 fun_induction TriplesOk l with
 | case1=>cases hs
 | case2 a t b u x rest ih =>
  simp only [List.cons_append,codeAmong] at hs ⊢
  split at hs
  ·rename_i hc;rw [if_pos hc];exact hs
  ·rename_i hc;rw [if_neg hc];exact ih h hs
 | case3 l h1 h2=>exact h.elim
theorem among_new {pos pos':Pos} {c:Value} {cv:Value}:∀ (l:List Value),TriplesOk l->codeAmong pos' (l++[rawInt pos.line,rawInt pos.col,c])=some cv->codeAmong pos' l=some cv\/cv=c:=fun l h hs=>by
 fun_induction TriplesOk l with
 | case1 =>
  simp only [List.nil_append,codeAmong,rawInt] at hs
  split at hs
  ·cases hs;exact .inr rfl
  ·cases hs
 | case2 a t b u x rest ih =>
  simp only [List.cons_append,codeAmong] at hs ⊢
  split at hs
  ·rename_i hc;rw [if_pos hc];exact .inl hs
  ·rename_i hc;rw [if_neg hc];exact ih h hs
 | case3 l h1 h2=>exact h.elim
structure LamAt (X:Cx) (tb:Tb) (c P:Addr) (q:Str):Prop where
 code:X.env.code=.ref c
 mem:(c,P,q) ∈ tb
 one:∀ c' q',(c',P,q') ∈ tb->q'=q
 head:PySem.W.CodeHd X.base c P
 ng:mainGlobals ≠ P
 blt:X.base.BuiltinsAt X.mg P
section
variable {tb:Tb} {X:Cx} {pins:List (Addr × Obj)} {σ:St} {H:Hp} {s:Shared}
theorem blt_keeps {h h':Heap} {mg:Str->Option Value} {P:Addr} (x:h.BuiltinsAt mg P) (k:∀ b o,h.get? b=some o->h'.get? b=some o):h'.BuiltinsAt mg P :=
 let ⟨bm,o,a,b,c,d,e,r⟩:=x;⟨bm,o,a,b,c,d,k _ _ e,r⟩
theorem lam_eval {params:Arguments} {body:Expr} {scope:Scope} {lpos:Pos} {clos:List (Str × Addr)} {c P:Addr} {q:Str} {ρ:List Addr} {vh:VH} {Q:Value->Shared->Prop} {E:Value->Shared->Prop} (L:LamAt X tb c P q) (hq:q=X.env.qual++"<lambda>") (hdef:defaultsOf params X.env=([],[])) (hcl:closureFor scope X.env=pure clos)
  (I:Inv X pins σ H s) (S:Sim tb ρ vh H)
  (k:∀ g c' ctv pm H1 s1 ps,Keep ρ ρ H H1->Inv X pins σ H1 s1->Sim tb ρ vh H1->s1.heap.get? g=some (PySem.W.kla_obj "<lambda>" q params body scope clos pm c' ctv)->H1 g=none->g ∉ frs X.stack->H1 P=some (.tbl ps)->TriplesOk ps.toList->codeAmong lpos ps.toList=some (.ref c')->Q (.ref g) s1) :
  wpAny (model X.prog X.w) X.A (eval (.Lambda params body scope lpos) X.env) Q E s:=by
 refine PySem.W.kla_eval hdef ?_
 rw [<- hq]
 obtain ⟨ps,hP,tri,ent⟩:=S.tab c P q L.mem
 have gP:s.heap.get? P=some (PySem.W.tabObj ps):=I.hok P _ hP
 have hgl:s.heap.Ns mainGlobals X.mg:=I.mod.glob.keeps I.bk
 have stkOut:∀ (h':Heap) (g:Addr),s.heap.objs.size<=g->g ∉ frs X.stack:=fun h' g hg z=>by
  obtain ⟨_,o,ho,_⟩:=I.stack.mem z
  exact absurd (Nat.lt_of_lt_of_le (Heap.lt_size ho) hg) (Nat.lt_irrefl _)
 cases ha:codeAmong lpos ps.toList with
 | some cv =>
  obtain ⟨c',φ,rfl,hc',hφ⟩:=ent lpos cv ha
  refine PySem.W.kla_makeFunctionHit hcl I.ok.glob hgl L.code (L.head.keeps I.bk) gP tri ha (blt_keeps L.blt I.bk) fun ctv h' tk kp sz=>?_
  have kp':∀ b o,s.heap.get? b=some o->(h'.push { cls:=.type "function",data:=.func (PySem.W.kla_fn "<lambda>" q params body scope clos ((X.mg "__name__").getD .none) (.ref c') ctv) }).get? b=some o:=fun b o e=>Heap.get?_push_of_some _ (kp b o e)
  refine k h'.objs.size c' ctv _ H _ ps Keep.refl (I.kept kp') S (Heap.get?_push_size _ rfl) (I.hok.fresh sz) (stkOut h' _ sz) hP tri ha
 | none =>
  refine PySem.W.kla_makeFunction hcl I.ok.glob hgl L.code (L.head.keeps I.bk) gP tri ha L.ng (blt_keeps L.blt I.bk) fun c' ctv h' tk hx hge hlt hrec htb=>?_
  have sz:s.heap.objs.size<=h'.objs.size:=Nat.le_of_lt (Nat.lt_of_le_of_lt hge hlt)
  have nc:H c'=none:=I.hok.fresh hge
  have cP:c' ≠ P:=fun z=>by rw [z,hP] at nc;cases nc
  have gc:s.heap.get? c'=none:=Heap.get?_none_of_le hge
  have H1P:(upd (upd H P (.tbl (ps++#[rawInt lpos.line,rawInt lpos.col,.ref c']))) c' (.ext fun h=>h.CodeRec (.ref c') q)) P=some (.tbl (ps++#[rawInt lpos.line,rawInt lpos.col,.ref c'])):=by rw [upd_ne (Ne.symm cP),upd_same]
  have H1c:(upd (upd H P (.tbl (ps++#[rawInt lpos.line,rawInt lpos.col,.ref c']))) c' (.ext fun h=>h.CodeRec (.ref c') q)) c'=some (.ext fun h=>h.CodeRec (.ref c') q):=upd_same
  have H1n:∀ b,b ≠ P->b ≠ c'->(upd (upd H P (.tbl (ps++#[rawInt lpos.line,rawInt lpos.col,.ref c']))) c' (.ext fun h=>h.CodeRec (.ref c') q)) b=H b:=fun b h1 h2=>by rw [upd_ne h2,upd_ne h1]
  generalize hH1:(upd (upd H P (.tbl (ps++#[rawInt lpos.line,rawInt lpos.col,.ref c']))) c' (.ext fun h=>h.CodeRec (.ref c') q))=H1 at H1P H1c H1n
  have keepH:Keep ρ ρ H H1:=⟨⟨fun a u i e=>by
   rw [H1n a (fun z=>by rw [z,hP] at e;cases e;exact i) (fun z=>by rw [z,nc] at e;cases e)];exact e,fun a u i _ e=>by
   rw [H1n a (fun z=>by rw [z,hP] at e;cases e;exact i) (fun z=>by rw [z,nc] at e;cases e)];exact e,fun _ h n=>absurd h n⟩,fun a o u e=>by
   rw [H1n a (fun z=>by rw [z,hP] at e;cases e) (fun z=>by rw [z,nc] at e;cases e)];exact e⟩
  have push:∀ b o,b ≠ P->s.heap.get? b=some o->(h'.push (PySem.W.kla_obj "<lambda>" q params body scope clos ((X.mg "__name__").getD .none) c' ctv)).get? b=some o:=fun b o hb e=>Heap.get?_push_of_some _ (hx b o hb e)
  have newP:(h'.push (PySem.W.kla_obj "<lambda>" q params body scope clos ((X.mg "__name__").getD .none) c' ctv)).get? P=some (PySem.W.tabObj (ps++#[rawInt lpos.line,rawInt lpos.col,.ref c'])):=Heap.get?_push_of_some _ htb
  have nP:∀ b,H b=none->b ≠ P:=fun b hb z=>by rw [z,hP] at hb;cases hb
  have ncB:∀ b o,s.heap.get? b=some o->b ≠ c':=fun b o e z=>by rw [z,gc] at e;cases e
  have u:Un X.fs [] H H1 s.heap (h'.push (PySem.W.kla_obj "<lambda>" q params body scope clos ((X.mg "__name__").getD .none) c' ctv)):=by
   refine ⟨fun b o e n _ _=>push b o (nP b n) e,fun b o e n _ _=>⟨o.slots,push b o (nP b n) e⟩,fun b o e n _=>by rw [H1n b (nP b n) (ncB b o e)];exact n,fun b o e _=>?_,fun b xs e=>keepH.imm b _ trivial e,fun b o u e=>?_,fun b ps' e=>?_⟩
   ·by_cases hb:b=P
    ·subst hb;exact ⟨_,newP⟩
    ·exact ⟨o,push b o hb e⟩
   ·rw [H1n b (fun z=>by rw [z,hP] at e;cases e) (fun z=>by rw [z,nc] at e;cases e)];exact e
   ·by_cases hb:b=P
    ·subst hb;rw [hP] at e;cases e;exact ⟨_,H1P⟩
    ·exact ⟨#[],by rw [H1n b hb (fun z=>by rw [z,nc] at e;cases e)];simpa using e⟩
  have hok:HOk X.prog X.w H1 (h'.push (PySem.W.kla_obj "<lambda>" q params body scope clos ((X.mg "__name__").getD .none) c' ctv)):=fun a o e=>by
   by_cases ha1:a=P
   ·subst ha1;rw [H1P] at e;cases e;exact newP
   ·by_cases ha2:a=c'
    ·subst ha2
     rw [H1c] at e;cases e
     obtain ⟨c2,oc,vs,t,e2,hoc,hd,hv⟩:=hrec
     cases e2
     refine ⟨⟨_,oc,vs,t,rfl,Heap.get?_push_of_some _ hoc,hd,hv⟩,⟨oc,Heap.get?_push_of_some _ hoc⟩,fun g1 g2 hp hk=>?_⟩
     obtain ⟨c3,o3,v3,t3,e3,g3,r3⟩:=hp
     cases e3
     exact ⟨_,o3,v3,t3,rfl,hk _ g3,r3⟩
    ·rw [H1n a ha1 ha2] at e
     refine (I.hok a o e).stay (fun b u hb e2=>push b u (fun z=>?_) e2) (fun b e2=>?_) fun b xs e2=>keepH.imm b _ trivial e2
     ·rcases hb with hb | hb
      ·exact ha1 (by rw [<- hb,z])
      ·rw [z,hP] at hb;cases hb
     ·rw [H1n b (fun z=>by rw [z,hP] at e2;cases e2) (fun z=>by rw [z,nc] at e2;cases e2)];exact e2
  have tri1:TriplesOk (ps++#[rawInt lpos.line,rawInt lpos.col,Value.ref c']).toList:=by
   rw [Array.toList_append];exact TriplesOk_snoc _ _ _ _ tri
  have S1:Sim tb ρ vh H1:=by
   refine ⟨fun c2 P2 q2 m2=>?_,S.nd,S.len,fun i a ob e1 e2=>?_⟩
   ·by_cases h2:P2=P
    ·subst h2
     cases L.one c2 q2 m2
     refine ⟨_,H1P,tri1,fun pos' cv hcv=>?_⟩
     rw [Array.toList_append] at hcv
     rcases among_new _ tri hcv with hcv | rfl
     ·obtain ⟨c3,φ,rfl,h3,h4⟩:=ent pos' cv hcv
      exact ⟨c3,φ,rfl,keepH.imm c3 _ trivial h3,h4⟩
     ·exact ⟨c',_,rfl,H1c,fun h hh=>hh⟩
    ·obtain ⟨ps2,e2,t2,n2⟩:=S.tab c2 P2 q2 m2
     refine ⟨ps2,by rw [H1n P2 h2 (fun z=>by rw [z,nc] at e2;cases e2)];exact e2,t2,fun pos' cv hcv=>?_⟩
     obtain ⟨c3,φ,rfl,h3,h4⟩:=n2 pos' cv hcv
     exact ⟨c3,φ,rfl,keepH.imm c3 _ trivial h3,h4⟩
   ·refine (S.obj i a ob e1 e2).mono List.prefix_rfl keepH ?_
    obtain ⟨u,hu,cu⟩:=S.some (List.mem_of_getElem? e1)
    exact H1n a (fun z=>by rw [z,hP] at hu;cases hu;exact cu) (fun z=>by rw [z,nc] at hu;cases hu)
  refine k h'.objs.size c' ctv _ H1 _ _ keepH (I.un u hok) S1 (Heap.get?_push_size _ rfl) ?_ (stkOut h' _ sz) H1P tri1 ?_
  ·rw [H1n _ (fun z=>by rw [<- z,I.hok.fresh sz] at hP;cases hP) (Nat.ne_of_gt hlt)];exact I.hok.fresh sz
  ·rw [Array.toList_append];exact codeAmong_snoc _ tri ha
end
end FS
namespace FS
open PySem PySem.Spec PyProof.Rows L2 FX
section
variable {tb:Tb} {X:Cx}
def flTry (fh:FH) (f:Fl):Fl:=match f with
 | .exc x h'=>fh x h'
 | .ret v h'=>.ret v h'
 | _=>.bad
theorem try_raw {body:List Stmt} {h₀:ExceptHandler} {hs:List ExceptHandler} {pos:Pos} {f:Fl} {fh:FH} {σ:St} {H:Hp} {s:Shared} {ρ:List Addr} {D:Ends} (hex:X.ex=[]) (hstk:X.stack=X.env :: X.outer/\X.env.frame=some X.env.locals) (hfn:∀ x,X.fn x=true)
  (hb:∀ xe D',PostS tb { X with xe:=xe } ρ H f D'->wpAny (model X.prog X.w) X.A (execs body X.env) (SP { X with xe:=xe } [] D') xe s) (hh:HsOk tb X (h₀ :: hs) fh) (I:Inv X [] σ H s) (p:PostS tb X ρ H (flTry fh f) D) :
  wpAny (model X.prog X.w) X.A (exec (.Try body (h₀ :: hs) [] [] pos) X.env) (SP X [] D) X.xe s:=by
 refine wpAny_Try_except ?_
 have hb':=hb (fun e s₁=>wpAny (model X.prog X.w) X.A (noteFrame e X.env) (fun _ s₂=>wpAny (model X.prog X.w) X.A (setFlight e none) (fun _ s₃=>wpAny (model X.prog X.w) X.A (handleBy e X.env (h₀ :: hs)) (SP X [] D) X.xe s₃) X.xe s₂) X.xe s₁) { nx:=fun _ _=>False,rt:=D.rt } ?_
 ·refine wpAny_mono hb' (fun fl s' q=>?_) fun _ _ z=>z
  cases fl with
  | ret u=>obtain ⟨v',σ',H',J,rv,q⟩:=q;exact ⟨v',σ',H',J.wish _,rv,q⟩
  | next=>obtain ⟨_,_,_,q⟩:=q;exact q.elim
  | brk=>obtain ⟨_,_,_,q⟩:=q;exact q.elim
  | cont=>obtain ⟨_,_,_,q⟩:=q;exact q.elim
 ·cases f with
  | exc x h' =>
   intro σ' ev s' q
   obtain ⟨ρ1,H1,e1,p1,k1,I1,S1,rfl,xa⟩:=q
   refine catchA (H:=H) (ρ:=ρ) hex hstk hfn ⟨ρ1,H1,e1,p1,k1,I1.wish _,S1,rfl,⟨xa.nb,xa.nH,xa.n0,xa.np,xa.stage⟩⟩ fun ρ2 H2 e T dO s2 p2 k2 e2 I2 S2 c=>?_
   cases e2
   exact hh σ' H2 s2 ρ2 h' x e1 T dO D I2 S2 c (PostS.fwd p2 k2 p)
  | ret v h'=>exact p
  | next _ _=>exact p.elim
  | brk _ _=>exact p.elim
  | cont _ _=>exact p.elim
  | bad=>exact p.elim
theorem cells_of {pins:List (Addr × Obj)} {σ:St} {H:Hp} {s:Shared} {scope:Scope} {clos:List (Str × Addr)} {pr:List Nat} {xs:List Str} (I:Inv X pins σ H s) (hcl:AllC X.env.cells clos) (cap:CapOk X scope clos pr xs):CellsAt clos xs (pr.map fun j=>(σ[j]?).getD none) H s.heap:=by
 refine ⟨fun x y c h1 h2=>I.ok.inj x y c (hcl.look h1) (hcl.look h2),fun x c e=>I.cell x c (hcl.look e),fun x c e=>I.freeC x c (hcl.look e),fun i x v h1 h2=>?_,by rw [List.length_map,cap.len]⟩
 obtain ⟨j,q1,q2,q3,q4,q5⟩:=cap.get h1
 rw [List.getElem?_map,q1] at h2
 have h2':(σ[j]?).getD none=some v:=by simpa using h2
 cases e:σ[j]? with
 | none=>rw [e] at h2';cases h2'
 | some o =>
  rw [e] at h2'
  have h2'':o=some v:=h2'
  subst h2''
  obtain ⟨mX,hnX,hlX⟩:=I.loc
  obtain ⟨u,ru,lk⟩:=hlX j x v q2 e (.inr q3)
  obtain ⟨c,hc⟩:=Option.isSome_iff_exists.mp q4
  refine ⟨u,c,ru,hc,?_⟩
  rcases lk with ⟨kl,_⟩ | ⟨_,c',e',z'⟩
  ·exfalso
   have kl':X.env.scope.names.lookup x=some .local:=kl
   rcases q3 with q3 | q3 <;> (rw [q3] at kl';cases kl')
  ·rw [hcl.look hc] at e';cases e';exact z'
theorem CellsAt.un {clos:List (Str × Addr)} {xs:List Str} {σZ:St} {fs:List Addr} {H H':Hp} {h h':Heap} (C:CellsAt clos xs σZ H h) (u:Un fs [] H H' h h'):CellsAt clos xs σZ H' h':=by
 have cell:∀ x c,clos.lookup x=some c->∀ v,h.IsCell c v->h'.IsCell c v:=fun x c e v ⟨o,g,d⟩=>by
  obtain ⟨sl,q⟩:=u.any g (C.free x c e) (by simp)
  exact ⟨_,q,d⟩
 refine ⟨C.inj,fun x c e=>?_,fun x c e=>?_,fun i x v h1 h2=>?_,C.len⟩
 ·obtain ⟨v,q⟩:=C.cell x c e;exact ⟨v,cell x c e v q⟩
 ·obtain ⟨v,o,g,d⟩:=C.cell x c e;exact u.free c o g (C.free x c e) (by simp)
 ·obtain ⟨uu,c,r,e,q⟩:=C.has i x v h1 h2;exact ⟨uu,c,r,e,cell x c e _ q⟩
theorem execs_one {st:Stmt} {D:Ends} {s:Shared} {E:Value->Shared->Prop} (h:wpAny (model X.prog X.w) X.A (exec st X.env) (SP X [] D) E s):wpAny (model X.prog X.w) X.A (execs [st] X.env) (SP X [] D) E s:=by
 refine wpAny_execs_cons (thn h fun f s1 q=>?_)
 cases f with
 | next=>exact wpAny_execs_nil q
 | _=>exact q
def fTold (pr:List Nat) (fE:FE) (fh:FH):FE:=fun τ h=>match fE (startC 0 pr τ) h with
 | .ok v h'=>.ok v h'
 | .exc x h'=>match fh x h' with
  | .ret v h2=>.ok v h2
  | _=>.bad
 | .bad=>.bad
def cxT (P:Program) (w:World) (K:PySem.W.Frag) (mg:Str->Option Value) (base:Heap) (A:Around) (stk:List Env) (xs:List Str) (env2:Env) (s:Shared) (H:Hp) (xe:Value->Shared->Prop):Cx :=
 { prog:=P,w:=w,K:=K,mg:=mg,base:=base,A:=A.deeper env2,N:=xs,s₀:=s,H₀:=H,env:=env2,outer:=stk,stack:=env2 :: stk,ex:=[],fn:=fun _=>false,calm:=true,pn:=[],xe:=xe }
variable {P:Program} {w:World} {K:PySem.W.Frag} {mg:Str->Option Value} {base:Heap}
theorem e_told {k:Nat} {f:Addr} {tname tqual tn dn:Str} {tparams params:Arguments} {tscope scope:Scope} {dV kV doc pm cdv ct oc:Value} {an od:Option Addr} {osl:Array (Option Value)} {Nt xs:List Str} {dp cp rp tpos tp pos lpos:Pos} {h₀:ExceptHandler} {hs:List ExceptHandler} {body:Expr}
  {clos:List (Str × Addr)} {c Pt:Addr} {q:Str} {pr:List Nat} {fE:FE} {fh:FH}
  (hX:X.prog=P/\X.w=w/\X.K=K/\X.mg=mg/\X.base=base) (hcalm:X.calm=true)
  (lk:K.lookup f=some ⟨oc,od,.func (PySem.W.fnOf tname tqual tparams [.Try [.Return (some (.Call (.Name dn dp) [] [] cp)) rp] (h₀ :: hs) [] [] tpos] tscope dV kV doc pm an cdv ct),osl⟩) (hcd:PySem.W.codeIn K cdv tqual=true) (Sc:FnScope Nt [dn] tscope) (hloc:tscope.names.lookup dn=some .local)
  (hg:Gl X tn) (hm:mg tn=some (.ref f)) (hk:PySem.W.keepIn K (.ref f)=true) (hb:Binds K (PySem.W.fnOf tname tqual tparams [.Try [.Return (some (.Call (.Name dn dp) [] [] cp)) rp] (h₀ :: hs) [] [] tpos] tscope dV kV doc pm an cdv ct) [dn] [])
  (hr:Room (k + 2) X.A) (L:LamAt X tb c Pt q) (hq:q=X.env.qual++"<lambda>") (hdef:defaultsOf params X.env=([],[])) (hcl:closureFor scope X.env=pure clos) (hall:AllC X.env.cells clos) (cap:CapOk X scope clos pr xs)
  (hbind:∀ pm' c' ctv,bindArgs (PySem.W.kla_fn "<lambda>" q params body scope clos pm' (.ref c') ctv) ⟨[],[]⟩=pure []) (hsk:scope.kind=.function) (hco:scope.isCoroutine=false) (hgen:scope.isGenerator=false)
  (hfree:∀ y ∈ scope.names,y.2 ≠ .cell/\y.2 ≠ .local/\(y.2=.free->(clos.lookup y.1).isSome=true))
  (hh:∀ (A:Around) (outer:List Env) (s:Shared) (H:Hp) (E:XK),Room (k + 1) (A.deeper (envOfC tqual tscope s.heap.objs.size f cdv))->HsOk tb (cxOf (CXF P w base) P w K mg base Nt tqual tscope f cdv A outer s H E) (h₀ :: hs) fh)
  (hE:∀ (A:Around) (stk:List Env) (Lz g:Addr) (c':Addr) (s:Shared) (H:Hp) (xe:Value->Shared->Prop),Room k (A.deeper (lamEnv scope Lz clos (q++".<locals>.") g (.ref c')))->EOk tb (cxT P w K mg base A stk xs (lamEnv scope Lz clos (q++".<locals>.") g (.ref c')) s H xe) body fE)
  (hdb:(tn == ("__debug__" : Str))=false:=by decide) (hdd:(dn == ("__debug__" : Str))=false:=by decide) (hdc:(dn == ("__classdict__" : Str))=false:=by decide) :
  EOk tb X (.Call (.Name tn tp) [.Lambda params body scope lpos] [] pos) (fTold pr fE fh):=by
 obtain ⟨rfl,rfl,rfl,rfl,rfl⟩:=hX
 intro pins s σ H Q I ⟨ρ,vh,τ,st,S,p⟩
 refine wpAny_Call_Name_kw (ld_glob I hg hm ?_ hdb)
 refine PySem.W.callWith_K (h₀:=X.base) I.ok.mod.kin hk ?_ rfl rfl
 show wpAny _ _ (spliced ((false,eval (.Lambda params body scope lpos) X.env) :: backTo pos (starEach [] X.env))) _ _ s
 refine Calls.spliced_cons (lam_eval L hq hdef hcl I S fun g c' ctv pm' H1 s1 ps k1 I1 S1 hgo hgn hgf hPt tri hamong=>?_)
 refine Calls.spliced_nil ⟨I1.kIn,?_⟩
 have C1:CellsAt clos xs (pr.map fun j=>(σ[j]?).getD none) H1 s1.heap:=cells_of I1 hall cap
 have st1:=(startC_rel (pr:=pr) 0 (st.mono List.prefix_rfl k1))
 have hbb:=hb s1 [.ref g] I1.kIn rfl
 rw [List.append_nil] at hbb
 -- the frame of the def
 have KX:=I1.kIn
 have lim:s1.heap.NoLimit:=I1.nolimit
 refine wpAny_call (codeAny_call_function (Room.mono hr (by omega:k + 1<=k + 2)).depth (KX _ _ lk) rfl Sc.co Sc.gen rfl (PySem.W.codeRec_of KX hcd) (hbb _ _ _ _ ?_))
 refine wpAny_newFunctionEnv_cells Sc.kind (fun ⟨n,v⟩ hy=>?_) fun env he s2 x=>?_
 ·have:n=dn:=by simpa using (List.of_mem_zip hy).1
  subst this;exact .inl hloc
 subst he
 refine ⟨lim.keeps x.toInCall.keep,codeAny_func ?_⟩
 have r1:Vals [V.ref g] [Value.ref g]:=.cons rfl .nil
 have IY:Inv (cxOf (CXF X.prog X.w X.base) X.prog X.w X.K X.mg X.base Nt tqual tscope f cdv X.A X.stack s1 H1 (fun _ _ _=>False)) [] (L2.start Nt [.ref g]) H1 s2:=inv_start Sc hr.hd I1.env0 rfl r1 x
 have hN0:Nt[0]?=some dn:=by
  have:=Sc.pre
  cases Nt with
  | nil=>simp at this
  | cons a t=>simp at this;rw [this];rfl
 have hσ0:(L2.start Nt [V.ref g])[0]?=some (some (V.ref g)):=by unfold L2.start;rfl
 have hrY:Room (k + 1) (X.A.deeper (envOfC tqual tscope s1.heap.objs.size f cdv)):=hr.deeper _
 have hHs:=hh X.A X.stack s1 H1 (fun _ _ _=>False) hrY
 have key:=try_raw (X:=cxOf (CXF X.prog X.w X.base) X.prog X.w X.K X.mg X.base Nt tqual tscope f cdv X.A X.stack s1 H1 (fun _ _ _=>False)) (tb:=tb) (pos:=tpos) (ρ:=ρ) (σ:=L2.start Nt [.ref g]) (H:=H1) (s:=s2) (D:={ nx:=fun _ _=>False,rt:=Q })
  (f:=match fE (startC 0 pr τ) vh with | .ok v h'=>.ret v h' | .exc x h'=>.exc x h' | .bad=>.bad) (body:=[.Return (some (.Call (.Name dn dp) [] [] cp)) rp]) rfl ⟨rfl,rfl⟩ (fun _=>rfl) (fun xe D' pD=>?_) hHs IY ?_
 ·refine wpAny_mono (execs_one key) (fun fl s' hs=>?_) fun e s' hs=>?_
  ·cases fl with
   | ret u =>
    obtain ⟨v,σ',H',J,rv,q⟩:=hs
    exact I1.after ⟨v,H',J.os,J.bare,J.base,J.hok,rv,q⟩
   | next=>obtain ⟨_,_,_,q⟩:=hs;exact q.elim
   | brk=>obtain ⟨_,_,_,q⟩:=hs;exact q.elim
   | cont=>obtain ⟨_,_,_,q⟩:=hs;exact q.elim
  ·refine wpAny_mono hs (fun _ s'' hz=>?_) fun e' s'' hz=>?_
   ·obtain ⟨_,_,_,_,_,_,_,_,_,_,_,_,_,_,_,_,_,_,_,z⟩:=hz;exact z.elim
   ·obtain ⟨_,_,_,_,_,_,_,_,_,_,_,_,_,_,_,_,_,_,_,z⟩:=hz;exact z.elim
 ·-- the lambda is called
  have te:PE { cxOf (CXF X.prog X.w X.base) X.prog X.w X.K X.mg X.base Nt tqual tscope f cdv X.A X.stack s1 H1 (fun _ _ _=>False) with xe:=xe } (.Call (.Name dn dp) [] [] cp) (fun σ' H' Q'=>σ'[0]?=some (some (V.ref g))/\∃ ρ' vh',Sim tb ρ' vh' H'/\StRel X.A.handled ρ' H' (startC 0 pr τ) (pr.map fun j=>(σ[j]?).getD none) /\
    Post tb { cxOf (CXF X.prog X.w X.base) X.prog X.w X.K X.mg X.base Nt tqual tscope f cdv X.A X.stack s1 H1 (fun _ _ _=>False) with xe:=xe } σ' ρ' H' (fE (startC 0 pr τ) vh') Q'):=by
   intro pins' s' σ' H' Q' J ⟨h0,ρ',vh',S',st',p'⟩
   refine wpAny_Call_Name_kw (thn (pe_var (X:={ cxOf (CXF X.prog X.w X.base) X.prog X.w X.K X.mg X.base Nt tqual tscope f cdv X.A X.stack s1 H1 (fun _ _ _=>False) with xe:=xe }) (pos:=dp) hN0 (.inl hloc) hdd hdc pins' s' σ' H' (fun v H2=>v=.ref g/\H2=H') J ⟨_,h0,rfl,rfl⟩) fun u s3 ⟨v,H2,J2,rv,hv,hH⟩=>?_)
   subst hv hH
   cases (show u=Value.ref g from rv)
   have ho:s3.heap.get? g=some (PySem.W.kla_obj "<lambda>" q params body scope clos pm' c' ctv):=J2.base.keep g _ hgo hgn hgf (by simp [cxOf])
   have hcr:s3.heap.CodeRec (.ref c') q:=by
    obtain ⟨more,hm2⟩:=J2.base.tbls Pt ps hPt
    obtain ⟨ps2,e2,t2,n2⟩:=S'.tab c Pt q L.mem
    rw [hm2] at e2;cases e2
    have ha2:=among_more more.toList _ tri hamong
    rw [<- Array.toList_append] at ha2
    obtain ⟨c3,φ,e3,h3,h4⟩:=n2 lpos _ ha2
    cases e3
    exact h4 _ (J2.hok c' _ h3).1
   refine Calls.callWith_function (a:=g) (PySem.evalArgs_none ⟨⟨ho,rfl⟩,?_⟩)
   refine wpAny_call (run_lam (xs:=xs) (σZ:=pr.map fun j=>(σ[j]?).getD none) (τZ:=startC 0 pr τ) (fE:=fE) J2 rfl ho hcr (hbind _ _ _) hrY.depth hsk hco hgen hfree (C1.un J2.base) (fun Lz s4 H4 xe4=>hE _ _ Lz g c' s4 H4 xe4 (hrY.deeper _)) st' S' p')
  refine pss_one (ps_ret te) [] s2 (L2.start Nt [.ref g]) H1 D' (IY.wish _) ⟨hσ0,ρ,vh,S1,?_,?_⟩
  ·simpa using st1
  ·cases ef:fE (startC 0 pr τ) vh with
   | ok v h'=>rw [ef] at pD;exact pD
   | exc x h'=>rw [ef] at pD;exact fun ev s' q=>pD _ ev s' q
   | bad=>rw [ef] at pD;exact pD
 ·have p1:=Post.fwd List.prefix_rfl k1 p
  unfold fTold at p1
  cases ef:fE (startC 0 pr τ) vh with
  | ok v h'=>rw [ef] at p1;exact p1
  | exc x h' =>
   rw [ef] at p1
   dsimp only at p1
   show PostS tb _ ρ H1 (fh x h') _
   cases eh:fh x h' with
   | ret v h2=>rw [eh] at p1;exact p1
   | next _ _=>rw [eh] at p1;exact p1.elim
   | brk _ _=>rw [eh] at p1;exact p1.elim
   | cont _ _=>rw [eh] at p1;exact p1.elim
   | exc _ _=>rw [eh] at p1;exact p1.elim
   | bad=>rw [eh] at p1;exact p1.elim
  | bad=>rw [ef] at p1;exact p1.elim
end
end FS
namespace FS
open PySem PySem.Spec PyProof.Rows L2 FX
section
variable {tb:Tb} {X:Cx} {pos:Pos}
def sBad:FSt:=fun _ _=>.bad
theorem b_bad {sts:List Stmt}:BOk tb X sts sBad:=fun pins s σ H D I ⟨_,_,_,_,_,p⟩=>p.elim
theorem ev (i:Nat) {x:Str} (hN:X.N[i]?=some x:=by rfl) (hv:Vis X.env.scope x:=by first | exact Or.inl rfl | exact Or.inr (Or.inl rfl) | exact Or.inr (Or.inr rfl)) (hd:(x == ("__debug__" : Str))=false:=by decide) (hcd:(x == ("__classdict__" : Str))=false:=by decide):EOk tb X (.Name x pos) (fVar i):=e_var hN hv hd hcd
theorem gn (i:Nat) {x:Str} (hN:X.N.Nodup:=by first | decide | decide +kernel) (hi:X.N[i]?=some x:=by rfl) (hx:Loc X.env.scope x:=by first | exact Or.inl rfl | exact Or.inr rfl) (hf:X.fn x=true\/X.env.scope.names.lookup x=some .local:=by first | exact .inl rfl | exact .inr rfl):GOk tb X (.Name x pos) (gN i):=g_name hN hi hx hf
end
section
variable {tb:Tb} {P:Program} {w:World} {K:PySem.W.Frag} {mg:Str->Option Value} {base:Heap}
def FnD (P:Program) (w:World) (K:PySem.W.Frag) (mg:Str->Option Value) (base:Heap) (tb:Tb) (k:Nat) (x:Str) (f:Addr) (ps:List Str) (F:FF):Prop:=∃ fd,FnF P w K mg base tb k f fd ps F/\Binds K fd ps []/\mg x=some (.ref f)/\PySem.W.keepIn K (.ref f)=true
def DefD (K:PySem.W.Frag) (mg:Str->Option Value) (x:Str) (st:Stmt) (f:Addr) (ps:List Str):Prop:=∃ fd,Fun K x x st f fd/\Binds K fd ps []/\mg x=some (.ref f)
theorem DefD.fn {x:Str} {st:Stmt} {f:Addr} {ps N:List Str} {k:Nat} {g:FSt} (D:DefD K mg x st f ps) (S:FnScope N ps (defScope st))
  (hbody:∀ (cdv:Value) (A:Around) (outer:List Env) (s:Shared) (H:Hp) (E:XK),Room k (A.deeper (envOfC x (defScope st) s.heap.objs.size f cdv))->BOk tb (cxOf (CXF P w base) P w K mg base N x (defScope st) f cdv A outer s H E) (defBody st) g) :
  FnD P w K mg base tb (k + 1) x f ps (fun xs=>runB g (startT N xs)):=by
 obtain ⟨fd,F,b,m⟩:=D
 obtain ⟨oc,od,kV,doc,pm,an,cdv,ct,osl,rfl,lk,hcd⟩:=F.ex
 exact ⟨_,fn_F lk hcd S (fun A outer s H E hr=>hbody cdv A outer s H E hr) (fun _ _ _=>rfl),b,m,F.kp⟩
end
section
variable {tb:Tb} {X:Cx} {pos p:Pos} {x:Str} {e:Expr} {es:List Expr} {fs:FA} {k:Nat} {f:Addr} {ps:List Str} {F:FF}
theorem e_callD (D:FnD X.prog X.w X.K X.mg X.base tb k x f ps F) (hr:Room k X.A) (ha:AOk tb X (e :: es) fs) (hg:Gl X x:=by rfl) (hdb:(x == ("__debug__" : Str))=false:=by decide) (he:starEach (e :: es) X.env=(false,eval e X.env) :: starEach es X.env:=by rfl) (hpl:(backTo pos (starEach es X.env)).any (·.1)=false:=by rfl) :
  EOk tb X (.Call (.Name x p) (e :: es) [] pos) (fCall F ps.length fs):=by
 obtain ⟨fd,Fn,b,m,kp⟩:=D
 exact e_call Fn hr hg m kp b ha hdb he hpl
end
section
variable {tb:Tb} {P:Program} {w:World} {K:PySem.W.Frag} {mg:Str->Option Value} {base:Heap}
def FnWD (P:Program) (w:World) (K:PySem.W.Frag) (mg:Str->Option Value) (base:Heap) (tb:Tb) (k:Nat) (x:Str) (f:Addr) (ps:List Str) (F:FF):Prop:=∃ fd,FnW P w K mg base tb k f fd ps F/\Binds K fd ps []/\mg x=some (.ref f)/\PySem.W.keepIn K (.ref f)=true
theorem DefD.fnW {x:Str} {st:Stmt} {f:Addr} {ps N:List Str} {k:Nat} {g:FSt} (D:DefD K mg x st f ps) (S:FnScope N ps (defScope st))
  (hbody:∀ (cdv:Value) (A:Around) (outer:List Env) (s:Shared) (H:Hp),RoomW k (A.deeper (envOfC x (defScope st) s.heap.objs.size f cdv))->BOk tb (cxW P w K mg base N x (defScope st) f cdv A outer s H) (defBody st) g) :
  FnWD P w K mg base tb (k + 1) x f ps (fun xs=>runB g (startT N xs)):=by
 obtain ⟨fd,F,b,m⟩:=D
 obtain ⟨oc,od,kV,doc,pm,an,cdv,ct,osl,rfl,lk,hcd⟩:=F.ex
 exact ⟨_,fn_W lk hcd S (fun A outer s H hr=>hbody cdv A outer s H hr) (fun _ _ _=>rfl),b,m,F.kp⟩
end
section
variable {tb:Tb} {X:Cx} {pos p:Pos} {x:Str} {e:Expr} {es:List Expr} {fs:FA} {k:Nat} {f:Addr} {ps:List Str} {F:FF}
theorem e_callWD (D:FnWD X.prog X.w X.K X.mg X.base tb k x f ps F) (hr:RoomW k X.A) (ha:AOk tb X (e :: es) fs) (hg:Gl X x:=by rfl) (hdb:(x == ("__debug__" : Str))=false:=by decide) (he:starEach (e :: es) X.env=(false,eval e X.env) :: starEach es X.env:=by rfl) (hpl:(backTo pos (starEach es X.env)).any (·.1)=false:=by rfl) :
  EOk tb X (.Call (.Name x p) (e :: es) [] pos) (fCallW F ps.length fs):=by
 obtain ⟨fd,Fn,b,m,kp⟩:=D
 exact e_callW Fn hr hg m kp b ha hdb he hpl
end
theorem stCt {c:Const} {k:Nat} {p:Pos} {es:List Expr} {env:Env}:starEach (.Constant c k p :: es) env=(false,eval (.Constant c k p) env) :: starEach es env:=rfl
theorem stNe {x:Str} {p:Pos} {es:List Expr} {env:Env}:starEach (.Name x p :: es) env=(false,eval (.Name x p) env) :: starEach es env:=rfl
theorem stTe {xs:List Expr} {k} {p:Pos} {es:List Expr} {env:Env}:starEach (.Tuple xs k p :: es) env=(false,eval (.Tuple xs k p) env) :: starEach es env:=rfl
theorem stLt {xs:List Expr} {p:Pos} {es:List Expr} {env:Env}:starEach (.List xs p :: es) env=(false,eval (.List xs p) env) :: starEach es env:=rfl
theorem stCl {f:Expr} {xs:List Expr} {ks} {p:Pos} {es:List Expr} {env:Env}:starEach (.Call f xs ks p :: es) env=(false,eval (.Call f xs ks p) env) :: starEach es env:=rfl
theorem stSt {a b:Expr} {p:Pos} {es:List Expr} {env:Env}:starEach (.Subscript a b p :: es) env=(false,eval (.Subscript a b p) env) :: starEach es env:=rfl
theorem stBp {a b:Expr} {o} {p:Pos} {es:List Expr} {env:Env}:starEach (.BinOp a o b p :: es) env=(false,eval (.BinOp a o b p) env) :: starEach es env:=rfl
inductive CL:List Expr->FA->Prop
 | nil:CL [] aNil
 | non {k:Nat} {p:Pos} {es:List Expr} {fs:FA}:CL es fs->CL (.Constant .none k p :: es) (aCons (fC .non) fs)
 | int {k:Nat} {p:Pos} {i:Int} {es:List Expr} {fs:FA}:CL es fs->CL (.Constant (.int i) k p :: es) (aCons (fC (.int i)) fs)
 | bl {k:Nat} {p:Pos} {b:Bool} {es:List Expr} {fs:FA}:CL es fs->CL (.Constant (.bool b) k p :: es) (aCons (fC (.bl b)) fs)
 | str {k:Nat} {p:Pos} {x:Str} {es:List Expr} {fs:FA}:CL es fs->CL (.Constant (.str x) k p :: es) (aCons (fC (.str x)) fs)
 | tup {k:Nat} {p:Pos} {es' es:List Expr} {fs' fs:FA}:CL es' fs'->CL es fs->CL (.Tuple es' k p :: es) (aCons (fTup fs') fs)
end FS
namespace FS
open PySem PySem.Spec PyProof.Rows L2 FX
abbrev CTab:=List (Addr × Str)
def CTabK (K:PySem.W.Frag) (ct:CTab):Prop:=∀ r ∈ ct,Cls K r.1/\NoAttr K r.1 r.2
theorem FRep.look {ρ:List Addr} {H:Hp} {f:Str}:∀ {fs:List (Str × PV)} {l:List (Str × V)},FRep ρ H fs l->(∀ x,fs.lookup f=some x->∃ v,l.lookup f=some v/\Rep ρ H x v)/\(fs.lookup f=none->l.lookup f=none)/\l.length=fs.length
 | [],_,h=>by rw [show _=[] from h];exact ⟨(fun x e=>by cases e),fun _=>rfl,rfl⟩
 | (g,y) :: ps,_,h=>by
  obtain ⟨v,r,rfl,q,t⟩:=h
  obtain ⟨i1,i2,i3⟩:=FRep.look (f:=f) t
  refine ⟨fun x e=>?_,fun e=>?_,by simp [i3]⟩
  ·rw [List.lookup_cons] at e ⊢
   cases hb:f == g with
   | true=>rw [hb] at e;cases e;exact ⟨v,rfl,q⟩
   | false=>rw [hb] at e;exact i1 x e
  ·rw [List.lookup_cons] at e ⊢
   cases hb:f == g with
   | true=>rw [hb] at e;cases e
   | false=>rw [hb] at e;exact i2 e
def putP (f:Str) (v:PV):List (Str × PV)->List (Str × PV)
 | []=>[(f,v)]
 | (g,x) :: r=>if g=f then (g,v) :: r else (g,x) :: putP f v r
theorem FRep.put {ρ:List Addr} {H:Hp} {f:Str} {x:PV} {v:V} (q:Rep ρ H x v):∀ {fs:List (Str × PV)} {l:List (Str × V)},FRep ρ H fs l->FRep ρ H (putP f x fs) (putF f v l)
 | [],_,h=>by rw [show _=[] from h];exact ⟨v,[],rfl,q,rfl⟩
 | (g,y) :: ps,_,h=>by
  obtain ⟨w,r,rfl,q2,t⟩:=h
  unfold putP putF
  by_cases e:g=f
  ·rw [if_pos e,if_pos e];exact ⟨v,r,rfl,q,t⟩
  ·rw [if_neg e,if_neg e];exact ⟨w,_,rfl,q2,FRep.put q t⟩
section
variable {tb:Tb} {X:Cx} {pos p p' pos':Pos} {e o value:Expr} {es:List Expr} {fe fo:FE} {fs:FA} {f x m:Str}
def fFld (ct:CTab) (f:Str) (fe:FE):FE:=fun τ=>M.bind (fe τ) fun v=>match v with
 | .ref i=>fun h=>match h[i]? with
  | some (.ins C fs)=>if (C,f) ∈ ct then (match fs.lookup f with
    | some x=>.ok x h
    | none=>.bad) else .bad
  | _=>.bad
 | _=>M.bad
theorem sim_ins {ρ:List Addr} {vh:VH} {H:Hp} (S:Sim tb ρ vh H) {i:Nat} {p C:Addr} {fs:List (Str × PV)} (h:ρ[i]?=some p) (e:vh[i]?=some (VO.ins C fs)):∃ dx l,H p=some (HO.ins C dx l)/\FRep ρ H fs l:=S.obj i p _ h e
theorem e_fld {ct:CTab} (hct:CTabK X.K ct) (he:EOk tb X e fe) (hb:attributeBase e f X.env (eval e X.env)=eval e X.env:=by rfl):EOk tb X (.Attribute e f pos) (fFld ct f fe) :=
 PE.mono (pe_fld he hb) fun σ H Q ⟨ρ,vh,τ,st,S,p⟩=>⟨ρ,vh,τ,st,S,seqEE p fun vh1 ρ1 H1 v1 w1 p1 k1 S1 r1 q1=>by
  cases v1 with
  | ref i =>
   obtain ⟨a,ha,rfl⟩:=r1
   dsimp only at q1
   cases eo:vh1[i]? with
   | none=>rw [eo] at q1;exact q1.elim
   | some o =>
    rw [eo] at q1
    cases o with
    | ins C fs =>
     dsimp only at q1
     obtain ⟨dx,l,hl,fr⟩:=sim_ins S1 ha eo
     by_cases hm:(C,f) ∈ ct
     ·rw [if_pos hm] at q1
      cases ex:fs.lookup f with
      | none=>rw [ex] at q1;exact q1.elim
      | some y =>
       rw [ex] at q1
       obtain ⟨v,e1,e2⟩:=(FRep.look (f:=f) fr).1 y ex
       exact ⟨a,C,dx,l,v,rfl,hl,(hct _ hm).1,(hct _ hm).2,e1,Post.here q1 S1 e2⟩
     ·rw [if_neg hm] at q1;exact q1.elim
    | _=>exact q1.elim
  | _=>exact q1.elim⟩
def sFldF (ct:CTab) (f:Str) (fo fe:FE):FSt:=fun τ=>M.then (fe τ) fun v=>M.then (fo τ) fun o h=>match o with
 | .ref i=>match h[i]? with
  | some (.ins C fs)=>if (C,f) ∈ ct/\fs.length < 1000 then .next τ (h.set i (.ins C (putP f v fs))) else .bad
  | _=>.bad
 | _=>.bad
theorem s_fld {ct:CTab} (hct:CTabK X.K ct) (ho:EOk tb X o fo) (hv:EOk tb X value fe) (hs:swapsWith value (some (.Attribute o f pos')) pos.line X.env=pure false:=by rfl) :
  SOk tb X (.Assign [.Attribute o f pos'] value pos) (sFldF ct f fo fe) :=
 PS.mono (ps_fld ho hv hs) fun D σ H ⟨ρ,vh,τ,st,S,p⟩=>⟨ρ,vh,τ,st,S,seqES p fun vh1 ρ1 H1 v1 w1 p1 k1 S1 r1 q1=>⟨ρ1,vh1,τ,st.mono p1 k1,S1,seqES q1 fun vh2 ρ2 H2 v2 w2 p2 k2 S2 r2 q2=>by
  cases v2 with
  | ref i =>
   obtain ⟨a,ha,rfl⟩:=r2
   dsimp only at q2
   cases eo:vh2[i]? with
   | none=>rw [eo] at q2;exact q2.elim
   | some o =>
    rw [eo] at q2
    cases o with
    | ins C fs =>
     dsimp only at q2
     obtain ⟨dx,l,hl,fr⟩:=sim_ins S2 ha eo
     by_cases hm:(C,f) ∈ ct/\fs.length < 1000
     ·rw [if_pos hm] at q2
      have kp:Keep ρ2 ρ2 H2 (upd H2 a (.ins C dx (putF f w1 l))):=Keep.put' S2 (List.mem_of_getElem? ha) hl
      refine ⟨a,C,dx,l,rfl,hl,(hct _ hm.1).1,(hct _ hm.1).2,by rw [(FRep.look (f:=f) fr).2.2];exact hm.2,q2 ρ2 _ σ List.prefix_rfl kp (S2.set ha ⟨dx,_,upd_same,?_⟩) (((st.mono p1 k1).mono p2 k2).mono List.prefix_rfl kp)⟩
      exact (FRep.put (r1.mono p2 k2) fr).mono List.prefix_rfl kp
     ·rw [if_neg hm] at q2;exact q2.elim
    | _=>exact q2.elim
  | _=>exact q2.elim⟩⟩
def MethD (P:Program) (w:World) (K:PySem.W.Frag) (mg:Str->Option Value) (base:Heap) (tb:Tb) (k:Nat) (C:Addr) (m:Str) (f:Addr) (ps:List Str) (F:FF):Prop :=
 ∃ fd,FnF P w K mg base tb k f fd ps F/\Binds K fd ps []/\Cls K C/\Meth K C m f
def mGo (C:Addr) (m:Str) (F:FF) (n:Nat) (fs:M (List PV)) (x:PV):M PV:=match x with
 | .ref i=>fun h=>match h[i]? with
  | some (.ins C' fl)=>if C'=C/\fl.lookup m=none then M.bind fs (fun xs=>if xs.length + 1=n then F (.ref i :: xs) else M.bad) h else .bad
  | _=>.bad
 | _=>M.bad
def fMeth (C:Addr) (m:Str) (F:FF) (n:Nat) (fo:FE) (fs:FA):FE:=fun τ=>M.bind (fo τ) (mGo C m F n (fs τ))
theorem binds_at {K:PySem.W.Frag} {fd:FuncData} {ps:List Str} (hb:Binds K fd ps []) {s:Shared} {us:List Value} (k:K.In s.heap) (hz:us.length=ps.length):BindsTo s fd ⟨us,[]⟩ (ps.zip us):=by
 have:=hb s us k (by rw [List.append_nil];exact hz)
 rwa [List.append_nil] at this
theorem meth_mid {C:Addr} {k:Nat} {g:Addr} {ps:List Str} {F:FF} {σ:St} {ρ1:List Addr} {H1:Hp} {vh1:VH} {τ:Tau} {v1:PV} {w1:V} {Q:VK} (st:StRel X.A.handled ρ1 H1 τ σ) (S1:Sim tb ρ1 vh1 H1) (r1:Rep ρ1 H1 v1 w1)
  (q1:Post tb X σ ρ1 H1 (mGo C m F ps.length (fs τ) v1 vh1) Q) :
  ∃ a dx l,w1=.ref a/\H1 a=some (.ins C dx l)/\l.lookup m=none/\tOfA tb X fs σ H1 (fun ws H2=>∃ ρ2 vh2 xs,xs.length=ps.length/\Sim tb ρ2 vh2 H2/\Reps ρ2 H2 xs (.ref a :: ws)/\Post tb X σ ρ2 H2 (F xs vh2) Q):=by
 unfold mGo at q1
 cases v1 with
 | ref i =>
  obtain ⟨a,ha,rfl⟩:=r1
  dsimp only at q1
  cases eo:vh1[i]? with
  | none=>rw [eo] at q1;exact q1.elim
  | some o =>
   rw [eo] at q1
   cases o with
   | ins C' fl =>
    dsimp only at q1
    obtain ⟨dx,l,hl,fr⟩:=sim_ins S1 ha eo
    by_cases hm:C'=C/\fl.lookup m=none
    ·rw [if_pos hm] at q1
     obtain ⟨rfl,hm⟩:=hm
     refine ⟨a,dx,l,rfl,hl,(FRep.look (f:=m) fr).2.1 hm,ρ1,vh1,τ,st,S1,seqAE q1 fun vh2 ρ2 H2 v2 w2 p2 k2 S2 r2 q2=>?_⟩
     by_cases hn:v2.length + 1=ps.length
     ·rw [if_pos hn] at q2
      exact ⟨ρ2,vh2,.ref i :: v2,hn,S2,⟨_,_,rfl,⟨a,pre_get p2 ha,rfl⟩,r2⟩,q2⟩
     ·rw [if_neg hn] at q2;exact q2.elim
    ·rw [if_neg hm] at q1;exact q1.elim
   | _=>exact q1.elim
 | _=>exact q1.elim
theorem e_meth {pl:Sem Bool} {apos:Pos} {C:Addr} {k:Nat} {g:Addr} {ps:List Str} {F:FF} (D:MethD X.prog X.w X.K X.mg X.base tb k C m g ps F) (hr:Room k X.A) (ho:EOk tb X o fo) (ha:AOk tb X (e :: es) fs)
  (hst:starEach (e :: es) X.env=(false,eval e X.env) :: starEach es X.env:=by rfl) (hpl:(backTo pos (starEach es X.env)).any (·.1)=false:=by rfl)
  (ht:eval (.Call (.Attribute o m apos) (e :: es) [] pos) X.env=(do
   let ov <- eval o X.env
   standAt apos.atName
   let (f,first) <- holding [ov] (getMethod ov m pl)
   callWith pos f first (backTo pos (starEach (e :: es) X.env)) (backToKw pos (keywordEach [] X.env))):=by rfl) :
  EOk tb X (.Call (.Attribute o m apos) (e :: es) [] pos) (fMeth C m F ps.length fo fs):=by
 intro pins s σ H Q I ⟨ρ,vh,τ,st,S,p⟩
 obtain ⟨fd,Fn,hb,hc,hm⟩:=D
 refine PySem.W.methodCall_KW (pl:=pl) (thn (ho pins s σ H (fun w1 H1=>∃ a dx l,w1=.ref a/\H1 a=some (.ins C dx l)/\l.lookup m=none/\tOfA tb X fs σ H1 (fun ws H2=>∃ ρ2 vh2 xs,xs.length=ps.length/\Sim tb ρ2 vh2 H2/\Reps ρ2 H2 xs (.ref a :: ws)/\Post tb X σ ρ2 H2 (F xs vh2) Q)) I ⟨ρ,vh,τ,st,S,seqEE p fun vh1 ρ1 H1 v1 w1 p1 k1 S1 r1 q1=>meth_mid (k:=k) (g:=g) (st.mono p1 k1) S1 r1 q1⟩) fun u s1 ⟨x,H1,I1,rx,a,dx,l,ex,ea,el,q⟩=>?_) ht
 subst ex
 obtain rfl:u=Value.ref a:=rx
 refine getmeth_ok I1 ea hc hm el ?_
 refine PySem.W.callWith_K (first:=[.ref a]) (h₀:=X.base) I.ok.mod.kin hm.kp (thn (ha pos pins s1 σ H1 _ I1 q) fun us s2 ⟨vs,H2,I2,r,ρ2,vh2,xs,hl,S2,r2,q2⟩=>⟨I2.kIn,?_⟩) hst hpl
 refine wpAny_call (run_F (us:=.ref a :: us) Fn hr (binds_at hb I2.kIn ?_) hl I2 S2 r2 (.cons rfl r) q2)
 have h1:=r2.length
 have h2:=r.length
 rw [List.length_cons] at h1
 show ([Value.ref a]++us).length=_
 rw [List.length_append,List.length_singleton]
 omega
theorem e_meth0 {pl:Sem Bool} {apos:Pos} {C:Addr} {k:Nat} {g:Addr} {ps:List Str} {F:FF} (D:MethD X.prog X.w X.K X.mg X.base tb k C m g ps F) (hr:Room k X.A) (ho:EOk tb X o fo)
  (ht:eval (.Call (.Attribute o m apos) [] [] pos) X.env=(do
   let ov <- eval o X.env
   standAt apos.atName
   let (f,first) <- holding [ov] (getMethod ov m pl)
   callWith pos f first (backTo pos (starEach [] X.env)) (backToKw pos (keywordEach [] X.env))):=by rfl) :
  EOk tb X (.Call (.Attribute o m apos) [] [] pos) (fMeth C m F ps.length fo aNil):=by
 intro pins s σ H Q I ⟨ρ,vh,τ,st,S,p⟩
 obtain ⟨fd,Fn,hb,hc,hm⟩:=D
 refine PySem.W.methodCall_KW (pl:=pl) (thn (ho pins s σ H (fun w1 H1=>∃ a dx l,w1=.ref a/\H1 a=some (.ins C dx l)/\l.lookup m=none/\tOfA tb X aNil σ H1 (fun ws H2=>∃ ρ2 vh2 xs,xs.length=ps.length/\Sim tb ρ2 vh2 H2/\Reps ρ2 H2 xs (.ref a :: ws)/\Post tb X σ ρ2 H2 (F xs vh2) Q)) I ⟨ρ,vh,τ,st,S,seqEE p fun vh1 ρ1 H1 v1 w1 p1 k1 S1 r1 q1=>meth_mid (k:=k) (g:=g) (st.mono p1 k1) S1 r1 q1⟩) fun u s1 ⟨x,H1,I1,rx,a,dx,l,ex,ea,el,q⟩=>?_) ht
 subst ex
 obtain rfl:u=Value.ref a:=rx
 refine getmeth_ok I1 ea hc hm el ?_
 obtain ⟨ρ1,vh1,τ1,st1,S1,q1⟩:=q
 obtain ⟨ρ2,vh2,xs,hl,S2,r2,q2⟩:=PostA.here q1 S1 rfl
 refine PySem.W.callWith_K0 (first:=[.ref a]) I1.kIn hm.kp (wpAny_call (run_F (us:=[.ref a]) Fn hr (binds_at hb I1.kIn ?_) hl I1 S2 r2 (.cons rfl .nil) q2))
 have:=r2.length
 rw [<- hl,<- this];rfl
structure KwD (K:PySem.W.Frag) (fd:FuncData) (ps ks:List Str):Prop where
 to:∀ (s:Shared) (us ws:List Value),K.In s.heap->(us++ws).length=ps.length->ws.length=ks.length->BindsTo s fd ⟨us,ks.zip ws⟩ (ps.zip (us++ws))
def MethK (P:Program) (w:World) (K:PySem.W.Frag) (mg:Str->Option Value) (base:Heap) (tb:Tb) (k:Nat) (C:Addr) (m:Str) (f:Addr) (ps ks:List Str) (F:FF):Prop :=
 ∃ fd,FnF P w K mg base tb k f fd ps F/\KwD K fd ps ks/\Cls K C/\Meth K C m f
def KOk (tb:Tb) (X:Cx) (kws:List Keyword) (f:FA):Prop:=PK X kws (tOfA tb X f)
theorem k_nil:KOk tb X [] aNil:=fun pos pins s σ H Q I ⟨ρ,vh,τ,st,S,p⟩=>pk_nil pos pins s σ H Q I (PostA.here p S rfl)
theorem k_cons {nm:Option Str} {kpos:Pos} {kws:List Keyword} (ha:EOk tb X e fe) (hr:KOk tb X kws fs):KOk tb X (⟨nm,e,kpos⟩ :: kws) (aCons fe fs):=fun pos pins s σ H Q I ⟨ρ,vh,τ,st,S,p⟩ =>
 pk_cons ha hr pos pins s σ H Q I ⟨ρ,vh,τ,st,S,seqEA p fun vh1 ρ1 H1 v1 w1 p1 k1 S1 r1 q1=>⟨ρ1,vh1,τ,st.mono p1 k1,S1,seqAA q1 fun vh2 ρ2 H2 v2 w2 p2 k2 S2 r2 q2=>PostA.here q2 S2 ⟨_,_,rfl,r1.mono p2 k2,r2⟩⟩⟩
def fMethK (C:Addr) (m:Str) (F:FF) (n nk:Nat) (fo:FE) (fs fk:FA):FE:=fun τ=>M.bind (fo τ) fun x=>match x with
 | .ref i=>fun h=>match h[i]? with
  | some (.ins C' fl)=>if C'=C/\fl.lookup m=none then M.bind (fs τ) (fun xs=>M.bind (fk τ) fun ys=>if xs.length + 1 + ys.length=n/\ys.length=nk then F (.ref i :: (xs++ys)) else M.bad) h else .bad
  | _=>.bad
 | _=>M.bad
theorem e_methK {pl:Sem Bool} {apos:Pos} {C:Addr} {k:Nat} {g:Addr} {ps ks:List Str} {F:FF} {kws:List Keyword} {fk:FA} (D:MethK X.prog X.w X.K X.mg X.base tb k C m g ps ks F) (hr:Room k X.A) (ho:EOk tb X o fo) (ha:AOk tb X (e :: es) fs) (hk:KOk tb X kws fk)
  (hall:(backToKw pos (keywordEach kws X.env)).all (·.1.isSome)=true:=by rfl) (hks:(backToKw pos (keywordEach kws X.env)).filterMap (·.1)=ks:=by rfl)
  (he:starEach (e :: es) X.env=(false,eval e X.env) :: starEach es X.env:=by rfl)
  (hpl:((backTo pos (starEach (e :: es) X.env)).any (·.1) || (backToKw pos (keywordEach kws X.env)).any (·.1.isNone))=false:=by rfl)
  (ht:eval (.Call (.Attribute o m apos) (e :: es) kws pos) X.env=(do
   let ov <- eval o X.env
   standAt apos.atName
   let (f,first) <- holding [ov] (getMethod ov m pl)
   callWith pos f first (backTo pos (starEach (e :: es) X.env)) (backToKw pos (keywordEach kws X.env))):=by rfl) :
  EOk tb X (.Call (.Attribute o m apos) (e :: es) kws pos) (fMethK C m F ps.length ks.length fo fs fk):=by
 intro pins s σ H Q I ⟨ρ,vh,τ,st,S,p⟩
 obtain ⟨fd,Fn,hb,hc,hm⟩:=D
 refine PySem.W.methodCall_KW (pl:=pl) (thn (ho pins s σ H (fun w1 H1=>∃ a dx l,w1=.ref a/\H1 a=some (.ins C dx l)/\l.lookup m=none/\tOfA tb X fs σ H1 (fun ws H2=>tOfA tb X fk σ H2 fun zs H3=>∃ ρ2 vh2 xs,zs.length=ks.length/\xs.length=ps.length/\Sim tb ρ2 vh2 H3/\Reps ρ2 H3 xs (.ref a :: (ws++zs))/\Post tb X σ ρ2 H3 (F xs vh2) Q)) I ⟨ρ,vh,τ,st,S,seqEE p fun vh1 ρ1 H1 v1 w1 p1 k1 S1 r1 q1=>?_⟩) fun u s1 ⟨x,H1,I1,rx,a,dx,l,ex,ea,el,q⟩=>?_) ht
 ·cases v1 with
  | ref i =>
   obtain ⟨a,ha,rfl⟩:=r1
   dsimp only at q1
   cases eo:vh1[i]? with
   | none=>rw [eo] at q1;exact q1.elim
   | some o =>
    rw [eo] at q1
    cases o with
    | ins C' fl =>
     dsimp only at q1
     obtain ⟨dx,l,hl,fr⟩:=sim_ins S1 ha eo
     by_cases hc':C'=C/\fl.lookup m=none
     ·rw [if_pos hc'] at q1
      obtain ⟨rfl,hz⟩:=hc'
      refine ⟨a,dx,l,rfl,hl,(FRep.look (f:=m) fr).2.1 hz,ρ1,vh1,τ,st.mono p1 k1,S1,seqAE q1 fun vh2 ρ2 H2 v2 w2 p2 k2 S2 r2 q2=>⟨ρ2,vh2,τ,(st.mono p1 k1).mono p2 k2,S2,seqAE q2 fun vh3 ρ3 H3 v3 w3 p3 k3 S3 r3 q3=>?_⟩⟩
      by_cases hn:v2.length + 1 + v3.length=ps.length/\v3.length=ks.length
      ·rw [if_pos hn] at q3
       exact ⟨ρ3,vh3,.ref i :: (v2++v3),by rw [r3.length];exact hn.2,by rw [<- hn.1];simp;omega,S3,⟨_,_,rfl,⟨a,pre_get p3 (pre_get p2 ha),rfl⟩,(r2.mono p3 k3).append r3⟩,q3⟩
      ·rw [if_neg hn] at q3;exact q3.elim
     ·rw [if_neg hc'] at q1;exact q1.elim
    | _=>exact q1.elim
  | _=>exact q1.elim
 subst ex
 obtain rfl:u=Value.ref a:=rx
 refine getmeth_ok I1 ea hc hm el ?_
 refine PySem.W.callWith_KW (first:=[.ref a]) (h₀:=X.base) I.ok.mod.kin hm.kp hall (thn (ha pos pins s1 σ H1 _ I1 q) fun us s2 ⟨vs,H2,I2,r,q2⟩=>?_) hpl he
 refine thn (hk pos pins s2 σ H2 _ I2 q2) fun ws s3 ⟨zs,H3,I3,rz,ρ2,vh2,xs,hz,hl,S2,r2,q3⟩=>⟨I3.kIn,?_⟩
 rw [hks]
 have h1:=r2.length
 simp only [List.length_cons,List.length_append] at h1
 have rl:=r.length
 have rzl:=rz.length
 refine wpAny_call (run_F (us:=.ref a :: (us++ws)) Fn hr (hb.to s3 (.ref a :: us) ws I3.kIn ?_ (by omega)) hl I3 S2 r2 (.cons rfl (r.append rz)) q3)
 simp only [List.length_cons,List.length_append,List.cons_append]
 omega
def MakeD (P:Program) (w:World) (K:PySem.W.Frag) (mg:Str->Option Value) (base:Heap) (tb:Tb) (k:Nat) (x:Str) (C f:Addr) (ps:List Str) (F:FF):Prop :=
 ∃ fd,FnF P w K mg base tb k f fd ps F/\Binds K fd ps []/\Mk K C f/\mg x=some (.ref C)
def fMake (C:Addr) (F:FF):FE:=fun _ h=>match F [.ref h.length] (h++[.ins C []]) with
 | .ok .non h'=>.ok (.ref h.length) h'
 | _=>.bad
theorem e_make0 {k:Nat} {C g:Addr} {ps:List Str} {F:FF} (D:MakeD X.prog X.w X.K X.mg X.base tb k x C g ps F) (hps:ps.length=1) (hr:Room (k + 1) X.A) (hg:Gl X x:=by rfl) (hdb:(x == ("__debug__" : Str))=false:=by decide) :
  EOk tb X (.Call (.Name x p) [] [] pos) (fMake C F):=by
 obtain ⟨fd,Fn,hb,M,hm⟩:=D
 refine PE.mono (pe_make0 (E:=fun _ _ _=>False) M Fn hr hg hm hb .nil (fun pins σ H s e s' I h=>?_) hdb) fun σ H Q ⟨ρ,vh,τ,st,S,p⟩=>?_
 ·obtain ⟨_,_,_,_,_,_,_,_,_,_,_,_,_,_,_,_,_,_,_,z⟩:=h
  exact z.elim
 ·intro a dx ha hdx hne
  have hne':H dx=none:=hdx
  have S1:Sim tb ρ vh (upd H dx (.own a)):=S.side hdx
  have h1:(upd H dx (.own a)) a=none:=by rw [upd_ne (Ne.symm hne)];exact ha
  have S2:Sim tb (ρ++[a]) (vh++[.ins C []]) (upd (upd H dx (.own a)) a (.ins C dx [])):=S1.push h1 ⟨dx,[],upd_same,rfl⟩
  have K1:Keep ρ (ρ++[a]) H (upd (upd H dx (.own a)) a (.ins C dx [])):=Keep.trans (Keep.new hdx) (Keep.push h1)
  have la:(ρ++[a])[vh.length]?=some a:=by rw [<- S.len];simp
  refine ⟨ρ++[a],vh++[.ins C []],[.ref vh.length],hps.symm,⟨_,_,rfl,⟨a,la,rfl⟩,rfl⟩,S2,?_⟩
  unfold fMake at p
  cases e:F [.ref vh.length] (vh++[.ins C []]) with
  | ok v vh1 =>
   rw [e] at p
   cases v with
   | non =>
    dsimp only at p ⊢
    intro ρ' H' w p1 k1 S3 r3
    exact ⟨r3,p ρ' H' _ ((List.prefix_append _ _).trans p1) (K1.trans k1) S3 ⟨a,pre_get p1 la,rfl⟩⟩
   | _=>exact p.elim
  | exc y vh1=>rw [e] at p;exact p.elim
  | bad=>rw [e] at p;exact p.elim
end
end FS
namespace PySem
open Sem (wp)
section
variable {prog:Program} {w:World} {K:Type} [DecidableEq K] {knd:HeapKind prog w K} {A:Around} {E:Value->Shared->Prop} {s:Shared} {d a:Addr} {k:K} {xs:List (K × Addr × Value)}
end
end PySem
namespace FS
open PySem PySem.Spec PyProof.Rows L2 FX
section
variable {κ:Type} [DecidableEq κ] {kf:PV->Option κ} {ρ:List Addr} {H:Hp} {k:κ}
def dLook (kf:PV->Option κ) (kvs:List (PV × PV)) (k:κ):Option PV:=(kvs.find? fun kv=>decide (kf kv.1=some k)).map (·.2)
def dPut (kf:PV->Option κ) (kvs:List (PV × PV)) (key:PV) (k:κ) (v:PV):List (PV × PV) :=
 if (kvs.any fun kv=>decide (kf kv.1=some k))=true then kvs.map (fun kv=>if kf kv.1=some k then (kv.1,v) else kv) else kvs++[(key,v)]
theorem GRep.len:∀ {kvs:List (PV × PV)} {l:List (κ × V)},GRep kf ρ H kvs l->l.length=kvs.length
 | [],_,h=>by rw [show _=[] from h];rfl
 | _ :: _,_,h=>by obtain ⟨k,v,r,rfl,_,_,t⟩:=h;simp [t.len]
theorem GRep.look:∀ {kvs:List (PV × PV)} {l:List (κ × V)},GRep kf ρ H kvs l->(∀ x,dLook kf kvs k=some x->∃ v,valV l k=some v/\Rep ρ H x v)/\(dLook kf kvs k=none->valV l k=none)
 | [],_,h=>by rw [show _=[] from h];exact ⟨(fun x e=>by cases e),fun _=>rfl⟩
 | p :: ps,_,h=>by
  obtain ⟨k',v,r,rfl,hk,q,t⟩:=h
  obtain ⟨i1,i2⟩:=t.look
  unfold dLook at i1 i2 ⊢
  rw [List.find?_cons]
  by_cases e:k'=k
  ·have:decide (kf p.1=some k)=true:=by rw [hk,e];simp
   rw [this]
   refine ⟨fun x ex=>⟨v,valV_pos e,?_⟩,fun z=>by cases z⟩
   cases ex;exact q
  ·have:decide (kf p.1=some k)=false:=by rw [hk];simpa using e
   rw [this,valV_neg (show ¬ (k',v).1=k from e)]
   exact ⟨i1,i2⟩
theorem GRep.any:∀ {kvs:List (PV × PV)} {l:List (κ × V)},GRep kf ρ H kvs l->(l.any fun kv=>decide (kv.1=k))=kvs.any fun kv=>decide (kf kv.1=some k)
 | [],_,h=>by rw [show _=[] from h];rfl
 | p :: ps,_,h=>by
  obtain ⟨k',v,r,rfl,hk,q,t⟩:=h
  rw [List.any_cons,List.any_cons,t.any,hk]
  simp
theorem GRep.repl {x:PV} {v:V} (q:Rep ρ H x v):∀ {kvs:List (PV × PV)} {l:List (κ × V)},GRep kf ρ H kvs l->GRep kf ρ H (kvs.map fun kv=>if kf kv.1=some k then (kv.1,x) else kv) (l.map fun kv=>if kv.1=k then (kv.1,v) else kv)
 | [],_,h=>by rw [show _=[] from h];rfl
 | p :: ps,_,h=>by
  obtain ⟨k',v',r,rfl,hk,q2,t⟩:=h
  rw [List.map_cons,List.map_cons]
  by_cases e:k'=k
  ·rw [if_pos (show kf p.1=some k by rw [hk,e]),if_pos (show (k',v').1=k from e)]
   exact ⟨k',v,_,rfl,hk,q,t.repl q⟩
  ·rw [if_neg (show ¬ kf p.1=some k by rw [hk];simpa using e),if_neg (show ¬ (k',v').1=k from e)]
   exact ⟨k',v',_,rfl,hk,q2,t.repl q⟩
theorem GRep.snoc {key x:PV} {v:V} (hk:kf key=some k) (q:Rep ρ H x v):∀ {kvs:List (PV × PV)} {l:List (κ × V)},GRep kf ρ H kvs l->GRep kf ρ H (kvs++[(key,x)]) (l++[(k,v)])
 | [],_,h=>by rw [show _=[] from h];exact ⟨k,v,[],rfl,hk,q,rfl⟩
 | _ :: _,_,h=>by obtain ⟨k',v',r,rfl,hk',q2,t⟩:=h;exact ⟨k',v',_,rfl,hk',q2,t.snoc hk q⟩
theorem GRep.put {key x:PV} {v:V} (hk:kf key=some k) (q:Rep ρ H x v) {kvs:List (PV × PV)} {l:List (κ × V)} (h:GRep kf ρ H kvs l):GRep kf ρ H (dPut kf kvs key k x) (putK l k v):=by
 unfold dPut putK
 rw [h.any]
 split
 ·exact h.repl q
 ·exact h.snoc hk q
end
section
variable {ρ:List Addr} {H:Hp}
theorem scK_V {x:PV} {v:V} {k:Key} (r:Rep ρ H x v) (e:scK x=some k):v=kV k:=by
 cases x <;> first | cases e | skip
 ·exact r
 ·exact r
theorem scKs_V:∀ {xs:List PV} {vs:List V} {ks:List Key},Reps ρ H xs vs->scKs xs=some ks->vs=ks.map kV
 | [],_,ks,h,e=>by cases e;exact h
 | x :: xs,_,ks,h,e=>by
  obtain ⟨v,ws,rfl,r,t⟩:=h
  unfold scKs at e
  cases e1:scK x with
  | none=>rw [e1] at e;cases e
  | some k =>
   cases e2:scKs xs with
   | none=>rw [e1,e2] at e;cases e
   | some kt=>rw [e1,e2] at e;cases e;rw [scK_V r e1,scKs_V t e2];rfl
theorem tpK_V {x:PV} {v:V} {k:List Key} (r:Rep ρ H x v) (e:tpK x=some k):∃ b,v=.ref b/\H b=some (.tup (k.map kV)):=by
 cases x <;> first | cases e | skip
 obtain ⟨a,vs,rfl,h,t⟩:=r
 exact ⟨a,rfl,by rw [h,scKs_V t e]⟩
end
def dAt (h:VH) (d key:PV):Option (Option PV):=match d with
 | .ref i=>match h[i]? with
  | some (.dct kvs)=>match scK key with
   | some k=>some (dLook scK kvs k)
   | none=>none
  | some (.dtp kvs)=>match tpK key with
   | some k=>some (dLook tpK kvs k)
   | none=>none
  | some (.dfz kvs)=>match scK key with
   | some k=>some (dLook scK kvs k)
   | none=>none
  | _=>none
 | _=>none
theorem dAt_get {tb:Tb} {ρ:List Addr} {vh:VH} {H:Hp} (S:Sim tb ρ vh H) {d key:PV} {w wk:V} {r:Option PV} (rd:Rep ρ H d w) (rk:Rep ρ H key wk) (e:dAt vh d key=some r) :
  ∃ a o,w=.ref a/\DGet H a wk o/\IsD H a/\o.isSome=r.isSome/\(r=none->o=none)/\∀ x,r=some x->∃ v,o=some v/\Rep ρ H x v:=by
 cases d with
 | ref i =>
  obtain ⟨a,ha,rfl⟩:=rd
  unfold dAt at e
  dsimp only at e
  cases eo:vh[i]? with
  | none=>rw [eo] at e;cases e
  | some o =>
   rw [eo] at e
   have oo:=S.obj i a o ha eo
   cases o with
   | dct kvs =>
    dsimp only at e
    cases ek:scK key with
    | none=>rw [ek] at e;cases e
    | some k =>
     rw [ek] at e;cases e
     obtain ⟨l,hl,g⟩:=oo
     obtain ⟨g1,g2⟩:=g.look (k:=k)
     refine ⟨a,valV l k,rfl,by rw [scK_V rk ek];exact .k hl,.inl ⟨l,.inl hl⟩,?_,g2,g1⟩
     cases z:dLook scK kvs k with
     | none=>rw [g2 z];rfl
     | some x=>obtain ⟨v,h1,_⟩:=g1 x z;rw [h1];rfl
   | dtp kvs =>
    dsimp only at e
    cases ek:tpK key with
    | none=>rw [ek] at e;cases e
    | some k =>
     rw [ek] at e;cases e
     obtain ⟨l,hl,g⟩:=oo
     obtain ⟨g1,g2⟩:=g.look (k:=k)
     obtain ⟨b,rfl,hb⟩:=tpK_V rk ek
     refine ⟨a,valV l k,rfl,.t hl hb,.inr ⟨l,.inl hl⟩,?_,g2,g1⟩
     cases z:dLook tpK kvs k with
     | none=>rw [g2 z];rfl
     | some x=>obtain ⟨v,h1,_⟩:=g1 x z;rw [h1];rfl
   | dfz kvs =>
    dsimp only at e
    cases ek:scK key with
    | none=>rw [ek] at e;cases e
    | some k =>
     rw [ek] at e;cases e
     obtain ⟨ob,l,hl,g⟩:=oo
     obtain ⟨g1,g2⟩:=g.look (k:=k)
     refine ⟨a,valV l k,rfl,by rw [scK_V rk ek];exact .inl ⟨l,k,.inr ⟨ob,hl⟩,rfl,rfl⟩,.inl ⟨l,.inr ⟨ob,hl⟩⟩,?_,g2,g1⟩
     cases z:dLook scK kvs k with
     | none=>rw [g2 z];rfl
     | some x=>obtain ⟨v,h1,_⟩:=g1 x z;rw [h1];rfl
   | _=>cases e
 | _=>cases e
def dSet (h:VH) (d key v:PV):Option VH:=match d with
 | .ref i=>match h[i]? with
  | some (.dct kvs)=>match scK key with
   | some k=>if kvs.length < big then some (h.set i (.dct (dPut scK kvs key k v))) else none
   | none=>none
  | some (.dtp kvs)=>match tpK key with
   | some k=>if kvs.length < big then some (h.set i (.dtp (dPut tpK kvs key k v))) else none
   | none=>none
  | _=>none
 | _=>none
theorem big_lt {n:Nat} (h:n < big):n < sizeLine:=Nat.lt_of_lt_of_le h big_le
theorem dSet_put {tb:Tb} {ρ:List Addr} {vh vh':VH} {H:Hp} (S:Sim tb ρ vh H) {d key v:PV} {w wk wv:V} (rd:Rep ρ H d w) (rk:Rep ρ H key wk) (rv:Rep ρ H v wv) (e:dSet vh d key v=some vh') :
  ∃ a H',w=.ref a/\DPut H a wk wv H'/\Keep ρ ρ H H'/\Sim tb ρ vh' H':=by
 cases d with
 | ref i =>
  obtain ⟨a,ha,rfl⟩:=rd
  unfold dSet at e
  dsimp only at e
  cases eo:vh[i]? with
  | none=>rw [eo] at e;cases e
  | some o =>
   rw [eo] at e
   have oo:=S.obj i a o ha eo
   cases o with
   | dct kvs =>
    dsimp only at e
    cases ek:scK key with
    | none=>rw [ek] at e;cases e
    | some k =>
     rw [ek] at e;dsimp only at e
     by_cases hz:kvs.length < big
     ·rw [if_pos hz] at e;cases e
      obtain ⟨l,hl,g⟩:=oo
      have kp:Keep ρ ρ H (upd H a (.dK (putK l k wv))):=Keep.put' S (List.mem_of_getElem? ha) hl
      exact ⟨a,_,rfl,by rw [scK_V rk ek];exact .k hl (by rw [g.len];exact big_lt hz),kp,S.set ha ⟨_,upd_same,(g.put ek rv).mono List.prefix_rfl kp⟩⟩
     ·rw [if_neg hz] at e;cases e
   | dtp kvs =>
    dsimp only at e
    cases ek:tpK key with
    | none=>rw [ek] at e;cases e
    | some k =>
     rw [ek] at e;dsimp only at e
     by_cases hz:kvs.length < big
     ·rw [if_pos hz] at e;cases e
      obtain ⟨l,hl,g⟩:=oo
      obtain ⟨b,rfl,hb⟩:=tpK_V rk ek
      have kp:Keep ρ ρ H (upd H a (.dT (putK l k wv))):=Keep.put' S (List.mem_of_getElem? ha) hl
      exact ⟨a,_,rfl,.t hl hb (by rw [g.len];exact big_lt hz),kp,S.set ha ⟨_,upd_same,(g.put ek rv).mono List.prefix_rfl kp⟩⟩
     ·rw [if_neg hz] at e;cases e
   | _=>cases e
 | _=>cases e
end FS
namespace FS
open PySem PySem.Spec PyProof.Rows L2 FX
section
variable {tb:Tb} {X:Cx} {pos p p2 apos cpos:Pos} {a b c e o value:Expr} {es:List Expr} {fa fb fc fe fo fi:FE} {fs:FA} {x:Str}
def fDict0:FE:=fun _=>alloc (.dct [])
def fDict0T:FE:=fun _=>alloc (.dtp [])
theorem e_dict0:EOk tb X (.Dict [] [] pos) fDict0:=PE.mono pe_dnewK fun σ H Q ⟨ρ,vh,τ,st,S,p⟩ a ha=>by
 refine p (ρ++[a]) _ _ (List.prefix_append _ _) (Keep.push ha) (S.push ha ⟨[],upd_same,rfl⟩) ⟨a,?_,rfl⟩
 rw [<- S.len];simp
theorem e_dict0T:EOk tb X (.Dict [] [] pos) fDict0T:=PE.mono pe_dnewT fun σ H Q ⟨ρ,vh,τ,st,S,p⟩ a ha=>by
 refine p (ρ++[a]) _ _ (List.prefix_append _ _) (Keep.push ha) (S.push ha ⟨[],upd_same,rfl⟩) ⟨a,?_,rfl⟩
 rw [<- S.len];simp
def rDG:R2:=fun x y H Q=>∃ a v,x=.ref a/\DGet H a y (some v)/\Q v H
theorem ix_dict (hu:X.A.units + 1 < cLine):IxR X rDG:=by
 intro value slice pins s σ H x y v u Q I rx ry h hs
 obtain ⟨a,z,rfl,g,q⟩:=h
 cases rx
 exact tail_any (dict_typeIs I g) PySem.F.slot_dict_getitem.lookup (d_getItem hu I g ry fun w' s3 I3 rw'=>⟨z,H,I3,rw',q⟩) hs
def gIx2:G2:=fun x y h=>match dAt h x y with
 | some (some v)=>.ok v h
 | some none=>.bad
 | none=>gIx x y h
theorem o_ix2:Op2 tb X (fun x y H Q=>rDG x y H Q\/rIx X.K x y H Q) gIx2:=fun σ ρ vh H v1 v2 w1 w2 Q S r1 r2 p=>by
 unfold gIx2 at p
 cases e:dAt vh v1 v2 with
 | none=>rw [e] at p;exact .inr (o_ix σ ρ vh H v1 v2 w1 w2 Q S r1 r2 p)
 | some r =>
  rw [e] at p
  cases r with
  | none=>exact p.elim
  | some y =>
   obtain ⟨a,o,rfl,g,_,_,_,hx⟩:=dAt_get S r1 r2 e
   obtain ⟨v,rfl,rv⟩:=hx y rfl
   exact .inl ⟨a,v,rfl,g,Post.here p S rv⟩
theorem e_ix2 (hu:X.A.units + 40 < cLine) (ha:EOk tb X a fa) (hb:EOk tb X b fb) (hs:PlainIx b:=by intro _ _;rfl):EOk tb X (.Subscript a b pos) (fOp gIx2 fa fb) :=
 PE.mono (pe_ix ((ix_dict (by omega)).or ix_seq) ha hb hs) (op_mono o_ix2)
def gIn2 (gt:GTup):G2:=fun x y h=>match dAt h y x with
 | some r=>.ok (.bl r.isSome) h
 | none=>gIn gt x y h
def gNotIn (gt:GTup):G2:=fun x y h=>match gIn2 gt x y h with
 | .ok (.bl k) h'=>.ok (.bl (!k)) h'
 | _=>.bad
theorem op_in2 {gt:GTup} (hu:X.A.units + 40 < cLine) (hgt:GtOk X.K gt):OpR X (compareOp .In) (rOf tb X (gIn2 gt)):=by
 intro pins s σ H x y v u Q I rx ry h
 obtain ⟨σ0,ρ,vh,v1,v2,S,r1,r2,p⟩:=h
 unfold gIn2 at p
 cases e:dAt vh v2 v1 with
 | none=>rw [e] at p;exact op_inF hgt pins s σ H x y v u Q I rx ry ⟨σ0,ρ,vh,v1,v2,S,r1,r2,p⟩
 | some r =>
  rw [e] at p
  obtain ⟨a,o,rfl,g,_,ho,_,_⟩:=dAt_get S r2 r1 e
  cases ry
  refine d_in (by omega) I g rx fun s' I'=>⟨.bl o.isSome,H,I',rfl,?_⟩
  rw [ho]
  exact Post.here p S rfl
end
end FS
namespace FS
open PySem PySem.Spec PyProof.Rows L2 FX
section
variable {tb:Tb} {X:Cx} {pos p p2 apos cpos:Pos} {a b c e o value:Expr} {es:List Expr} {fa fb fc fe fo fi:FE} {fs:FA} {x:Str}
theorem notin_fin {σ:St} {ρ:List Addr} {vh:VH} {H:Hp} {x:PV} {ys:List PV} {v:V} {vs:List V} {a:Addr} {Q:VK} {k:Bool} (S:Sim tb ρ vh H) (r:Rep ρ H x v) (rs:Reps ρ H ys vs) (hq:SqL X.K H a vs\/SqT X.K H a vs)
  (hf:(fl x && ys.all fl)=true) (hk:k=inP x ys) (p:Post tb X σ ρ H (.ok (.bl (!k)) vh) Q):rIn X.K true v (.ref a) H Q:=by
 rw [Bool.and_eq_true] at hf
 obtain ⟨h1,h2⟩:=inV_P r hf.1 rs hf.2
 refine ⟨a,vs,rfl,hq,fl_V r hf.1,h1,?_⟩
 rw [if_pos rfl,h2,<- hk]
 exact Post.here p S rfl
theorem op_notIn2 {gt:GTup} (hu:X.A.units + 40 < cLine) (hgt:GtOk X.K gt):OpR X (compareOp .NotIn) (rOf tb X (gNotIn gt)):=by
 intro pins s σ H x y v u Q I rx ry h
 obtain ⟨σ0,ρ,vh,v1,v2,S,r1,r2,p⟩:=h
 unfold gNotIn gIn2 at p
 cases e:dAt vh v2 v1 with
 | some r =>
  rw [e] at p
  obtain ⟨a,o,rfl,g,_,ho,_,_⟩:=dAt_get S r2 r1 e
  cases ry
  refine d_notIn (by omega) I g rx fun s' I'=>⟨.bl (!o.isSome),H,I',rfl,?_⟩
  rw [ho]
  exact Post.here p S rfl
 | none =>
  rw [e] at p
  dsimp only at p
  have seq:∀ {ys:List PV} {vs:List V} {a:Addr},y=.ref a->Reps ρ H ys vs->(SqL X.K H a vs\/SqT X.K H a vs)->Post tb X σ0 ρ H (match (if (fl v1 && ys.all fl)=true then M.ret (.bl (inP v1 ys)) vh else Out.bad:Out PV) with | .ok (.bl k) h'=>.ok (.bl (!k)) h' | _=>.bad) Q->wpAny (model X.prog X.w) X.A (compareOp .NotIn v u) (EP X pins σ Q) X.xe s:=by
   intro ys vs a hy rs hq p
   subst hy
   by_cases hf:(fl v1 && ys.all fl)=true
   ·rw [if_pos hf] at p
    exact op_notIn_seq pins s σ H x _ v u Q I rx ry (notin_fin S r1 rs hq hf rfl p)
   ·rw [if_neg hf] at p;exact p.elim
  cases v2 with
  | str j =>
   cases v1 with
   | str i =>
    cases r1;cases r2
    exact op_notIn_str pins s σ H _ _ v u Q I rx ry ⟨i,j,rfl,rfl,Post.here p S rfl⟩
   | _=>exact p.elim
  | tup ys =>
   obtain ⟨a,vs,rfl,ha,rs⟩:=r2
   refine seq rfl rs (.inr (SqT.of ha)) ?_
   unfold gIn at p
   dsimp only at p
   by_cases hf:(fl v1 && ys.all fl)=true
   ·rw [if_pos hf] at p ⊢;exact p
   ·rw [if_neg hf] at p;exact p.elim
  | ref l =>
   obtain ⟨a,ha,rfl⟩:=r2
   unfold gIn at p
   dsimp only at p
   cases el:lsOf vh l with
   | none=>rw [el] at p;exact p.elim
   | some ys =>
    rw [el] at p
    obtain ⟨vs,rs,hr⟩:=ls_rd S el ha
    refine seq rfl rs (.inl (.inl hr)) ?_
    dsimp only at p
    by_cases hf:(fl v1 && ys.all fl)=true
    ·rw [if_pos hf] at p ⊢;exact p
    ·rw [if_neg hf] at p;exact p.elim
  | adr a =>
   unfold gIn at p
   dsimp only at p
   cases el:gt.lookup a with
   | none=>rw [el] at p;exact p.elim
   | some ys =>
    rw [el] at p
    obtain ⟨vs,hq,rs⟩:=hgt a ys el
    refine seq r2 (rs ρ H) (.inr (hq H)) ?_
    dsimp only at p
    by_cases hf:(fl v1 && ys.all fl)=true
    ·rw [if_pos hf] at p ⊢;exact p
    ·rw [if_neg hf] at p;exact p.elim
  | _=>exact p.elim
theorem e_in2 {gt:GTup} (hu:X.A.units + 40 < cLine) (hgt:GtOk X.K gt) (ha:EOk tb X a fa) (hb:EOk tb X b fb) (hm:behindInMarks .In b=false:=by rfl):EOk tb X (.Compare a [.In] [b] pos) (fOp (gIn2 gt) fa fb):=e_cmp (op_in2 hu hgt) (o_of _) ha hb hm
theorem t_in2 {gt:GTup} (hu:X.A.units + 40 < cLine) (hgt:GtOk X.K gt) (ha:EOk tb X a fa) (hb:EOk tb X b fb) (hm:behindInMarks .In b=false:=by rfl):TOk tb X (.Compare a [.In] [b] pos) (fB (fOp (gIn2 gt) fa fb)):=t_cmp (op_in2 hu hgt) (o_of _) ha hb hm
theorem t_notIn {gt:GTup} (hu:X.A.units + 40 < cLine) (hgt:GtOk X.K gt) (ha:EOk tb X a fa) (hb:EOk tb X b fb) (hm:behindInMarks .NotIn b=false:=by rfl):TOk tb X (.Compare a [.NotIn] [b] pos) (fB (fOp (gNotIn gt) fa fb)):=t_cmp (op_notIn2 hu hgt) (o_of _) ha hb hm
def isNon:PV->Bool | .non=>true | _=>false
theorem isNon_V {ρ:List Addr} {H:Hp} {x:PV} {v:V} (r:Rep ρ H x v):decide (v=V.non)=isNon x:=by
 cases x with
 | non=>cases r;rfl
 | bl _=>cases r;rfl
 | int _=>cases r;rfl
 | str _=>cases r;rfl
 | ty _=>cases r;rfl
 | adr _=>cases r;rfl
 | tup _=>obtain ⟨_,_,rfl,_⟩:=r;rfl
 | ref _=>obtain ⟨_,_,rfl⟩:=r;rfl
 | exc _ _ _=>obtain ⟨_,_,rfl,_⟩:=r;rfl
def gIsN:G2:=fun x y=>match y with | .non=>M.ret (.bl (isNon x)) | _=>M.bad
theorem o_isN:Op2 tb X (fun x y H Q=>y=.non/\Q (.bl (decide (x=.non))) H) gIsN:=fun σ ρ vh H v1 v2 w1 w2 Q S r1 r2 p=>by
 cases v2 with
 | non=>exact ⟨r2,by rw [isNon_V r1];exact Post.here p S rfl⟩
 | _=>exact p.elim
theorem t_isN (ha:EOk tb X a fa) (hb:EOk tb X b fb) (hm:behindInMarks .Is b=false:=by rfl):TOk tb X (.Compare a [.Is] [b] pos) (fB (fOp gIsN fa fb)):=t_cmp op_isN o_isN ha hb hm
def putAny (h:VH) (d key v:PV):Option VH:=match dSet h d key v with
 | some h'=>some h'
 | none=>match d,key with
  | .ref l,.int k=>match h[l]? with
   | some (.lst xs)=>match ixN xs.length k with
    | some j=>some (h.set l (.lst (xs.set j v)))
    | none=>none
   | _=>none
  | _,_=>none
def gSet2 (fo fi:FE):FG:=fun v τ h=>match fo τ h with
 | .ok d h1=>match fi τ h1 with
  | .ok k h2=>match putAny h2 d k v with
   | some h3=>.next τ h3
   | none=>.bad
  | _=>.bad
 | _=>.bad
def rSetA:TSet:=fun o i v H Q=>(∃ a H',o=.ref a/\DPut H a i v H'/\Q H')\/rSetL o i v H Q
theorem set_any (hu:X.A.units + 1 < cLine):PSet X rSetA:=by
 intro pins s σ H o i v ov iv u Q I ro ri rv h
 rcases h with ⟨a,H',rfl,g,q⟩ | h
 ·cases ro
  exact d_setItem hu I g ri rv fun s' I'=>⟨H',I',q⟩
 ·exact set_list pins s σ H o i v ov iv u Q I ro ri rv h
theorem putAny_set {ρ:List Addr} {vh vh':VH} {H:Hp} (S:Sim tb ρ vh H) {d key v:PV} {w wk wv:V} (rd:Rep ρ H d w) (rk:Rep ρ H key wk) (rv:Rep ρ H v wv) (e:putAny vh d key v=some vh') {Q:Hp->Prop}
  (hQ:∀ H',Keep ρ ρ H H'->Sim tb ρ vh' H'->Q H'):rSetA w wk wv H Q:=by
 unfold putAny at e
 cases e1:dSet vh d key v with
 | some h' =>
  rw [e1] at e;cases e
  obtain ⟨a,H',rfl,g,kp,S'⟩:=dSet_put S rd rk rv e1
  exact .inl ⟨a,H',rfl,g,hQ H' kp S'⟩
 | none =>
  rw [e1] at e
  cases d with
  | ref l =>
   cases key with
   | int k =>
    dsimp only at e
    obtain ⟨a,ha,rfl⟩:=rd
    cases eo:vh[l]? with
    | none=>rw [eo] at e;cases e
    | some ob =>
     rw [eo] at e
     cases ob with
     | lst xs =>
      dsimp only at e
      cases ej:ixN xs.length k with
      | none=>rw [ej] at e;cases e
      | some j =>
       rw [ej] at e;cases e
       obtain ⟨vs,hv,rs⟩:=sim_lst S ha eo
       have kp:Keep ρ ρ H (upd H a (.lst (vs.set j wv))):=Keep.put' S (List.mem_of_getElem? ha) hv
       cases rk
       exact .inr ⟨a,vs,k,j,rfl,rfl,hv,by rw [rs.length];exact ej,hQ _ kp (S.set ha ⟨_,upd_same,(rs.set rv j).mono List.prefix_rfl kp⟩)⟩
     | _=>cases e
   | _=>cases e
  | _=>cases e
theorem g_set2 (hu:X.A.units + 40 < cLine) (ho:EOk tb X o fo) (hi:EOk tb X a fi) (ha:∀ v,assign (.Subscript o a pos) X.env v=(do
   let ov <- holding [v] (eval o X.env)
   let iv <- holding [v,ov] (eval a X.env)
   standAt pos
   holding [v,ov,iv] (setItem ov iv v)
   release [v,ov,iv] []):=by intro _;rfl):GOk tb X (.Subscript o a pos) (gSet2 fo fi) :=
 PG.mono (pg_sub ho hi (set_any (by omega)) ha) fun w σ H Q ⟨ρ,vh,τ,v,st,S,r,p⟩=>by
  refine ⟨ρ,vh,τ,st,S,?_⟩
  unfold gSet2 at p
  cases e1:fo τ vh with
  | ok ov h1 =>
   rw [e1] at p
   dsimp only at p
   intro ρ1 H1 ow p1 k1 S1 r1
   refine ⟨ρ1,h1,τ,st.mono p1 k1,S1,?_⟩
   cases e2:fi τ h1 with
   | ok iv h2 =>
    rw [e2] at p
    dsimp only at p
    intro ρ2 H2 iw p2 k2 S2 r2
    cases e3:putAny h2 ov iv v with
    | none=>rw [e3] at p;exact p.elim
    | some h3 =>
     rw [e3] at p
     dsimp only at p
     exact putAny_set S2 (r1.mono p2 k2) r2 ((r.mono p1 k1).mono p2 k2) e3 fun H' kp S'=>p ρ2 H' σ (p1.trans p2) (k1.trans (k2.trans kp)) S' (((st.mono p1 k1).mono p2 k2).mono List.prefix_rfl kp)
   | exc y h2=>rw [e2] at p;exact p.elim
   | bad=>rw [e2] at p;exact p.elim
  | exc y h1=>rw [e1] at p;exact p.elim
  | bad=>rw [e1] at p;exact p.elim
end
end FS
namespace HT
open PySem PyProof.Rows
section
variable {prog:Program} {w:World} {A:Around} {E:Value->Shared->Prop} {s:Shared}
theorem cat_tup0 {t b:Addr} {ws:List Value} {Q:Value->Shared->Prop} (ht:IsTup s.heap t #[]) (hb:IsTup s.heap b ws.toArray) (h1:Q (.ref b) s):wpAny (model prog w) A (binaryOp .Add (.ref t) (.ref b)) Q E s:=by
 obtain ⟨⟨cls,dd,data,sl⟩,ho,hc,n,hd⟩:=id ht
 obtain ⟨⟨cls2,dd2,data2,sl2⟩,ho2,hc2,n2,hd2⟩:=id hb
 simp only at hc hd hc2 hd2
 subst hc hd hc2 hd2
 exact concat_meets ⟨_,ho,rfl⟩ ⟨_,ho2,rfl⟩ noFill_tuple_add seq_tuple_add PySem.F.slot_tuple_add PySem.F.entry_tuple_add (PySem.F.args_tuple_add_2 _ _)
   (tuple_addW0 t b #[] ws.toArray n n2 dd dd2 sl sl2 rfl) ⟨ho,ho2,h1⟩
theorem getItem_tuple_whole {t sl:Addr} {items:Array Value} {vl vu:Value} {lo hi:Option Int} {Q:Value->Shared->Prop} (ht:IsTup s.heap t items) (hs:s.heap.IsSliceOf sl vl vu .none) (pl:IsPart vl lo) (pu:IsPart vu hi)
  (hw:sIx items.size 0 lo=0/\sIx items.size items.size hi=items.size) (h:Q (.ref t) s):wpAny (model prog w) A (getItem (.ref t) (.ref sl)) Q E s:=by
 obtain ⟨os,hos,hcs,hds⟩:=id hs
 have hTs:s.TypeIs (.ref sl) "slice" := ⟨os,hos,hcs⟩
 unfold getItem
 try with_reducible refine wpAny_holding ?_
 first | refine wpAny_bind (wpAny_pure ?_) | skip
 refine wpAny_bind (wpAny_sequenceKey ht.typeIs (by decide) ?_)
 refine wpAny_bind (wpAny_callSpecial?_slot (name:=Str.ofString "__getitem__") ht.typeIs PyProof.Rows.slot_tuple_getitem
  (wpAny_call_entry PyProof.Rows.slot_tuple_getitem ht.typeIs entry_tuple_getitem ?_ (args_tuple_getitem _ _)))
 show wpAny _ _ (Builtin.Tuple.tupleItemsOf (.ref t) >>= _) _ _ s
 refine wpAny_bind (tupleItemsOf_ ht ?_)
 refine wpAny_bind (wpAny_typeOf hTs ?_)
 rw [if_pos (by decide)]
 refine wpAny_bind (sliceApplied_gen hs pl pu ?_)
 have hyes:((((sIx items.size 0 lo:Nat):Int) == 0 && (1:Int) == 1 && (sIx items.size items.size hi - sIx items.size 0 lo) == items.size)=true):=by
  rw [hw.1,hw.2];simp
 show wpAny _ _ (if (((sIx items.size 0 lo:Nat):Int) == 0 && (1:Int) == 1 && (sIx items.size items.size hi - sIx items.size 0 lo) == items.size)=true then _ else _) _ _ s
 rw [if_pos hyes]
 refine wpAny_bind ?_
 unfold Builtin.Tuple.tupleIsExact
 refine wpAny_bind (wpAny_typeOf ht.typeIs (wpAny_pure ?_))
 rw [if_pos (by decide)]
 first
  | exact wpAny_bind (wpAny_rule (wpAny_pure ⟨_,rfl,wpAny_pure h⟩))
  | exact wpAny_bind (wpAny_rule (wpAny_bind (wpAny_pure (wpAny_pure ⟨_,rfl,wpAny_pure h⟩))))
  | exact wpAny_bind (wpAny_rule (wpAny_bind (wpAny_pure ⟨_,rfl,wpAny_pure h⟩)))
end
end HT
namespace FS
open PySem PySem.Spec PyProof.Rows L2 FX
section
variable {tb:Tb} {X:Cx} {pos p p2 apos cpos:Pos} {a b c e o value:Expr} {es:List Expr} {fa fb fc fe fo fi:FE} {fs:FA} {x:Str}
def gPlus2:G2:=fun x y=>match x with
 | .tup []=>match y with
  | .tup ys=>M.ret (.tup ys)
  | _=>M.bad
 | _=>gPlus x y
def rCat0 (K:PySem.W.Frag):R2:=fun x y H Q=>∃ a b ys,x=.ref a/\y=.ref b/\SqT K H a []/\SqT K H b ys/\Q (.ref b) H
theorem op_cat0:OpR X (binaryOp .Add) (rCat0 X.K):=by
 intro pins s σ H x y v u Q I rx ry h
 obtain ⟨a,b,ys,rfl,rfl,ha,hb,q⟩:=h
 cases rx
 cases ry
 obtain ⟨its,r1,p1,_⟩:=I.tuple ha
 obtain ⟨its2,r2,p2,_⟩:=I.tuple hb
 cases r1.zero
 exact HT.cat_tup0 p1 p2 ⟨.ref b,H,I,rfl,q⟩
theorem e_plus2 (ha:EOk tb X a fa) (hb:EOk tb X b fb):EOk tb X (.BinOp a .Add b pos) (fOp gPlus2 fa fb):=e_op (op_cat0.or op_plusF) (fun σ ρ vh H v1 v2 w1 w2 Q S r1 r2 p=>by
 cases v1 with
 | tup xs =>
  cases xs with
  | nil =>
   cases v2 with
   | tup ys =>
    have r2':=r2
    obtain ⟨a1,vs,rfl,h1,q1⟩:=r1
    obtain ⟨a2,ws,rfl,h2,q2⟩:=r2
    cases (show vs=[] from q1)
    exact .inl ⟨a1,a2,ws,rfl,rfl,SqT.of h1,SqT.of h2,Post.here p S r2'⟩
   | _=>exact p.elim
  | cons y ys=>exact .inr (o_plus σ ρ vh H _ v2 w1 w2 Q S r1 r2 p)
 | _=>exact .inr (o_plus σ ρ vh H _ v2 w1 w2 Q S r1 r2 p)) ha hb
def gCut2 (x:PV) (lo hi:Option Int):M PV:=match x with
 | .tup xs=>if HT.sIx xs.length 0 lo=0/\HT.sIx xs.length xs.length hi=xs.length then M.ret (.tup xs) else M.ret (.tup (cutP xs lo hi))
 | _=>gCut x lo hi
def rCut2 (tb:Tb) (X:Cx):V->Option Int->Option Int->Hp->VK->Prop:=fun w lo hi H Q=>∃ σ ρ vh v,Sim tb ρ vh H/\Rep ρ H v w/\Post tb X σ ρ H (gCut2 v lo hi vh) Q
theorem sl_F2:SlR X (rCut2 tb X):=fun pins s σ H x v vl vu lo hi sl Q I rx hs pl pu ⟨σ',ρ,vh,w,S,r,p⟩=>by
 cases w with
 | tup xs =>
  simp only [gCut2] at p
  by_cases hz:HT.sIx xs.length 0 lo=0/\HT.sIx xs.length xs.length hi=xs.length
  ·rw [if_pos hz] at p
   have r':=r
   obtain ⟨a1,vs,rfl,h1,q1⟩:=r
   cases rx
   obtain ⟨its,rr,ht,hzz⟩:=I.tuple (SqT.of h1)
   have hlen:its.toArray.size=xs.length:=by rw [List.size_toArray,<- rr.length,q1.length]
   exact ⟨"tuple",_,PyProof.Rows.slot_tuple_getitem.lookup,ht.typeIs,HT.getItem_tuple_whole ht hs pl pu (by rw [hlen];exact hz) ⟨.ref a1,H,I,rfl,Post.here p S r'⟩⟩
  ·rw [if_neg hz] at p
   refine sl_F (tb:=tb) pins s σ H x v vl vu lo hi sl Q I rx hs pl pu ⟨σ',ρ,vh,.tup xs,S,r,?_⟩
   simp only [gCut]
   rw [if_neg hz];exact p
 | _=>exact sl_F (tb:=tb) pins s σ H x v vl vu lo hi sl Q I rx hs pl pu ⟨σ',ρ,vh,_,S,r,p⟩
def fSl2 (fe:FE) (flo fhi:FO):FE:=fun τ=>M.bind (fe τ) fun x=>M.bind (flo τ) fun lo=>M.bind (fhi τ) fun hi=>gCut2 x lo hi
theorem e_slice2 {lo hi:Option Expr} {flo fhi:FO} (he:EOk tb X e fe) (hl:OOk tb X lo flo) (hh:OOk tb X hi fhi):EOk tb X (.Subscript e (.Slice lo hi none p2) pos) (fSl2 fe flo fhi) :=
 PE.mono (pe_slice sl_F2 he hl hh) fun σ H Q ⟨ρ,vh,τ,st,S,p⟩=>⟨ρ,vh,τ,st,S,seqEE p fun vh1 ρ1 H1 v1 w1 p1 k1 S1 r1 q1=>⟨ρ1,vh1,τ,st.mono p1 k1,S1,seqOE q1 fun vh2 ρ2 H2 v2 p2 k2 S2 q2 =>
  ⟨ρ2,vh2,τ,(st.mono p1 k1).mono p2 k2,S2,seqOE q2 fun vh3 ρ3 H3 v3 p3 k3 S3 q3=>⟨σ,ρ3,vh3,v1,S3,(r1.mono p2 k2).mono p3 k3,q3⟩⟩⟩⟩
def gMul2:G2:=fun x y=>match x with
 | .ref l=>match y with
  | .int k=>fun h=>match h[l]? with
   | some (.lst xs)=>if -(2 ^ 63)<=k/\k < 2 ^ 63/\xs.length * k.toNat<=big then alloc (.lst (List.replicate k.toNat xs).flatten) h else .bad
   | _=>.bad
  | _=>M.bad
 | _=>gMul x y
theorem Reps.rep {ρ:List Addr} {H:Hp} {xs:List PV} {vs:List V} (r:Reps ρ H xs vs):∀ n:Nat,Reps ρ H (List.replicate n xs).flatten (List.replicate n vs).flatten
 | 0=>rfl
 | n + 1=>by
  rw [List.replicate_succ,List.replicate_succ,List.flatten_cons,List.flatten_cons]
  exact r.append (Reps.rep r n)
theorem e_mul2 (ha:EOk tb X a fa) (hb:EOk tb X b fb):EOk tb X (.BinOp a .Mult b pos) (fOp gMul2 fa fb):=e_op (op_rep.or op_mulF) (fun σ ρ vh H v1 v2 w1 w2 Q S r1 r2 p=>by
 cases v1 with
 | ref l =>
  cases v2 with
  | int k =>
   obtain ⟨a1,h1,rfl⟩:=r1
   simp only [gMul2] at p
   cases eo:vh[l]? with
   | none=>rw [eo] at p;exact p.elim
   | some ob =>
    rw [eo] at p
    cases ob with
    | lst xs =>
     dsimp only at p
     by_cases hz:-(2 ^ 63)<=k/\k < 2 ^ 63/\xs.length * k.toNat<=big
     ·rw [if_pos hz] at p
      obtain ⟨vs,hv,rs⟩:=sim_lst S h1 eo
      exact .inl ⟨a1,k,vs,rfl,r2,hv,hz.1,hz.2.1,by rw [rs.length];exact Nat.le_trans hz.2.2 big_le,fun p' hp=>Post.lst p S (rs.rep _) hp⟩
     ·rw [if_neg hz] at p;exact p.elim
    | _=>exact p.elim
  | _=>exact p.elim
 | int i=>exact .inr (o_I2 σ ρ vh H _ v2 w1 w2 Q S r1 r2 p)
 | _=>exact p.elim) ha hb
def truP (h:VH):PV->Option Bool
 | .non=>some false
 | .bl k=>some k
 | .int i=>some (i != 0)
 | .str y=>if y.length<=big then some ((y.length:Int) != 0) else none
 | .tup xs=>some (!xs.isEmpty)
 | .ref l=>match h[l]? with
  | some (.dct kvs)=>some (!kvs.isEmpty)
  | _=>match lsOf h l with
   | some xs=>some (!xs.isEmpty)
   | none=>none
 | _=>none
def fTr (fa:FE):FT:=fun τ=>M.bind (fa τ) fun x h=>match truP h x with
 | some k=>.ok k h
 | none=>.bad
theorem Reps.isEmpty {ρ:List Addr} {H:Hp} {xs:List PV} {vs:List V} (r:Reps ρ H xs vs):vs.isEmpty=xs.isEmpty:=by
 cases xs with
 | nil=>rw [show vs=[] from r];rfl
 | cons _ _=>obtain ⟨_,_,rfl,_⟩:=r;rfl
theorem truP_V {ρ:List Addr} {vh:VH} {H:Hp} (S:Sim tb ρ vh H) {x:PV} {v:V} {k:Bool} (r:Rep ρ H x v) (e:truP vh x=some k):TruV X.K v H k:=by
 cases x with
 | non=>cases e;cases r;rfl
 | bl _=>cases e;cases r;rfl
 | int _=>cases e;cases r;rfl
 | str y =>
  cases r
  unfold truP at e
  dsimp only at e
  by_cases hz:y.length<=big
  ·rw [if_pos hz] at e;cases e;exact ⟨Nat.le_trans hz big_le,rfl⟩
  ·rw [if_neg hz] at e;cases e
 | tup xs =>
  cases e
  obtain ⟨a1,vs,rfl,h1,q1⟩:=r
  exact .inr (.inl ⟨vs,SqT.of h1,by rw [q1.isEmpty]⟩)
 | ref l =>
  obtain ⟨a1,h1,rfl⟩:=r
  unfold truP at e
  dsimp only at e
  have seq:∀ {k},(match lsOf vh l with | some xs=>some (!xs.isEmpty) | none=>none)=some k->TruV X.K (.ref a1) H k:=by
   intro k e
   cases el:lsOf vh l with
   | none=>rw [el] at e;cases e
   | some ys =>
    rw [el] at e;cases e
    obtain ⟨vs,rs,hr⟩:=ls_rd S el h1
    exact .inl ⟨vs,.inl hr,by rw [rs.isEmpty]⟩
  cases eo:vh[l]? with
  | none=>rw [eo] at e;exact seq e
  | some ob =>
   rw [eo] at e
   cases ob with
   | dct kvs =>
    cases e
    obtain ⟨ll,hl,g⟩:=S.obj _ _ _ h1 eo
    refine .inr (.inr ⟨ll,hl,?_⟩)
    cases kvs with
    | nil=>rw [show ll=[] from g];rfl
    | cons _ _=>obtain ⟨_,_,_,rfl,_⟩:=g;rfl
   | _=>exact seq e
 | _=>cases e
theorem t_truth (ha:EOk tb X a fa) (he:∀ whole,isTrue a X.env whole=(do let v <- whole;standAt a.pos;holding [v] (truthy v)):=by intro _;rfl):TOk tb X a (fTr fa) :=
 PT.mono (pt_truth ha he) fun σ H Q ⟨ρ,vh,τ,st,S,p⟩=>⟨ρ,vh,τ,st,S,seqET p fun vh1 ρ1 H1 v1 w1 p1 k1 S1 r1 q1=>by
  cases e:truP vh1 v1 with
  | none=>rw [e] at q1;exact q1.elim
  | some k=>rw [e] at q1;exact ⟨k,truP_V S1 r1 e,PostT.here q1 S1⟩⟩
end
end FS
namespace FS
open PySem PySem.Spec PyProof.Rows L2 FX
section
variable {tb:Tb} {X:Cx} {pos p p2 apos cpos:Pos} {a b c e f o value:Expr} {es:List Expr} {fa fb fc fe ff fo fi:FE} {fs:FA} {x:Str}
def isD (h:VH):PV->Bool
 | .ref i=>match h[i]? with
  | some (.dct _)=>true
  | some (.dtp _)=>true
  | some (.dfz _)=>true
  | _=>false
 | _=>false
theorem isD_at' {ρ:List Addr} {vh:VH} {H:Hp} (S:Sim tb ρ vh H) {x:PV} {w:V} (r:Rep ρ H x w) (e:isD vh x=true):∃ a,w=.ref a/\IsD H a:=by
 cases x with
 | ref i =>
  obtain ⟨a,ha,rfl⟩:=r
  refine ⟨a,rfl,?_⟩
  unfold isD at e
  dsimp only at e
  cases eo:vh[i]? with
  | none=>rw [eo] at e;cases e
  | some ob =>
   rw [eo] at e
   have oo:=S.obj _ _ _ ha eo
   cases ob with
   | dct _=>obtain ⟨l,hl,_⟩:=oo;exact .inl ⟨l,.inl hl⟩
   | dtp _=>obtain ⟨l,hl,_⟩:=oo;exact .inr ⟨l,.inl hl⟩
   | dfz _=>obtain ⟨ob,l,hl,_⟩:=oo;exact .inl ⟨l,.inr ⟨ob,hl⟩⟩
   | _=>cases e
 | _=>cases e
def fGet1 (fo fe:FE):FE:=fun τ=>M.bind (fo τ) fun d h=>if isD h d=true then M.bind (fe τ) (fun k h=>match dAt h d k with
  | some r=>.ok (r.getD .non) h
  | none=>.bad) h else .bad
def fGet2 (fo fe ff:FE):FE:=fun τ=>M.bind (fo τ) fun d h=>if isD h d=true then M.bind (fe τ) (fun k=>M.bind (ff τ) fun z h=>match dAt h d k with
  | some r=>.ok (r.getD z) h
  | none=>.bad) h else .bad
theorem e_get1 (hu:X.A.units + 40 < cLine) (ho:EOk tb X o fo) (he:EOk tb X e fe) (m:M1 X o "get" apos e cpos:=by exact ⟨rfl,rfl,rfl,rfl⟩):EOk tb X (.Call (.Attribute o "get" apos) [e] [] cpos) (fGet1 fo fe) :=
 PE.mono (pe_dget1 (by omega) ho he m) fun σ H Q ⟨ρ,vh,τ,st,S,p⟩=>⟨ρ,vh,τ,st,S,seqEE p fun vh1 ρ1 H1 v1 w1 p1 k1 S1 r1 q1=>by
  by_cases hd:isD vh1 v1=true
  ·rw [if_pos hd] at q1
   obtain ⟨a,rfl,da⟩:=isD_at' S1 r1 hd
   refine ⟨a,rfl,da,ρ1,vh1,τ,st.mono p1 k1,S1,seqEE q1 fun vh2 ρ2 H2 v2 w2 p2 k2 S2 r2 q2=>?_⟩
   cases e1:dAt vh2 v1 v2 with
   | none=>rw [e1] at q2;exact q2.elim
   | some r =>
    rw [e1] at q2
    obtain ⟨a',oo,ea,g,_,_,hn,hs⟩:=dAt_get S2 (r1.mono p2 k2) r2 e1
    cases ea
    refine ⟨oo,g,?_⟩
    cases r with
    | none=>rw [hn rfl];exact Post.here q2 S2 rfl
    | some y=>obtain ⟨v,rfl,rv⟩:=hs y rfl;exact Post.here q2 S2 rv
  ·rw [if_neg hd] at q1;exact q1.elim⟩
theorem e_get2 (hu:X.A.units + 40 < cLine) (ho:EOk tb X o fo) (he:EOk tb X e fe) (hf:EOk tb X f ff) (m:M2 X o "get" apos e f cpos:=by exact ⟨rfl,rfl,rfl,rfl⟩):EOk tb X (.Call (.Attribute o "get" apos) [e,f] [] cpos) (fGet2 fo fe ff) :=
 PE.mono (pe_dget2 (by omega) ho he hf m) fun σ H Q ⟨ρ,vh,τ,st,S,p⟩=>⟨ρ,vh,τ,st,S,seqEE p fun vh1 ρ1 H1 v1 w1 p1 k1 S1 r1 q1=>by
  by_cases hd:isD vh1 v1=true
  ·rw [if_pos hd] at q1
   obtain ⟨a,rfl,da⟩:=isD_at' S1 r1 hd
   refine ⟨a,rfl,da,ρ1,vh1,τ,st.mono p1 k1,S1,seqEE q1 fun vh2 ρ2 H2 v2 w2 p2 k2 S2 r2 q2=>⟨ρ2,vh2,τ,(st.mono p1 k1).mono p2 k2,S2,seqEE q2 fun vh3 ρ3 H3 v3 w3 p3 k3 S3 r3 q3=>?_⟩⟩
   cases e1:dAt vh3 v1 v2 with
   | none=>rw [e1] at q3;exact q3.elim
   | some r =>
    rw [e1] at q3
    obtain ⟨a',oo,ea,g,_,_,hn,hs⟩:=dAt_get S3 ((r1.mono p2 k2).mono p3 k3) (r2.mono p3 k3) e1
    cases ea
    refine ⟨oo,g,?_⟩
    cases r with
    | none=>rw [hn rfl];exact Post.here q3 S3 r3
    | some y=>obtain ⟨v,rfl,rv⟩:=hs y rfl;exact Post.here q3 S3 rv
  ·rw [if_neg hd] at q1;exact q1.elim⟩
def gLen2:FF:=fun xs=>match xs with
 | [.ref l]=>fun h=>match h[l]? with
  | some (.dct kvs)=>.ok (.int kvs.length) h
  | _=>gLen xs h
 | _=>gLen xs
theorem call_len2:CallR X (.builtin "len") (rcOf tb X gLen2):=by
 intro pins s σ H ws us Q I r h
 obtain ⟨σ0,ρ,vh,xs,hd,S,rr,p⟩:=h
 have old:Post tb X σ0 ρ H (gLen xs vh) Q->wpAny (model X.prog X.w) X.A (call (.builtin "len") us) (EP X pins σ Q) X.xe s:=fun p=>call_lenF (tb:=tb) pins s σ H ws us Q I r ⟨σ0,ρ,vh,xs,hd,S,rr,p⟩
 match xs,rr,p,old with
 | [],_,p,old=>exact old p
 | [.ref l],rr,p,old =>
  simp only [gLen2] at p
  cases eo:vh[l]? with
  | none=>rw [eo] at p;exact old p
  | some ob =>
   rw [eo] at p
   obtain ⟨w,wt,rfl,⟨a1,h1,rfl⟩,hn⟩:=rr
   cases (show wt=[] from hn)
   have oo:=S.obj _ _ _ h1 eo
   cases ob with
   | dct kvs =>
    obtain ⟨ll,hl,g⟩:=oo
    refine call_lenD pins s σ H _ us Q I r ⟨a1,ll,rfl,hl,?_⟩
    rw [g.len]
    exact Post.here p S rfl
   | _=>exact old p
 | [.non],_,p,old=>exact old p
 | [.bl _],_,p,old=>exact old p
 | [.int _],_,p,old=>exact old p
 | [.str _],_,p,old=>exact old p
 | [.tup _],_,p,old=>exact old p
 | [.adr _],_,p,old=>exact old p
 | [.ty _],_,p,old=>exact old p
 | [.exc _ _ _],_,p,old=>exact old p
 | y :: _ :: _,_,p,old=>cases y <;> exact old p
end
end FS
namespace FS
open PySem PySem.Spec PyProof.Rows L2 FX
section
variable {tb:Tb} {X:Cx} {pos p p2 apos cpos:Pos} {a b c e f o value:Expr} {es:List Expr} {fa fb fc fe ff fo fi:FE} {fs:FA} {x:Str}
theorem e_len2 (hg:Gl X "len") (hm:X.mg "len" = none) (ha:AOk tb X (e :: es) fs) (he:starEach (e :: es) X.env=(false,eval e X.env) :: starEach es X.env:=by rfl) (hpl:(backTo pos (starEach es X.env)).any (·.1)=false:=by rfl) :
  EOk tb X (.Call (.Name "len" p) (e :: es) [] pos) (fCB gLen2 fs):=e_callB call_len2 (cb_of _) hg hm (by first | rfl | decide +kernel) ha (by decide) (by decide) he hpl
def gStrC:FF:=fun xs=>match xs with
 | [.int i]=>if i.natAbs.log2 < 1920 then M.ret (.str (toString i)) else M.bad
 | _=>M.bad
theorem cb_strC:CB tb X (fun xs H Q=>∃ i,xs=[V.int i]/\i.natAbs.log2 < 1920/\Q (.str (toString i)) H) gStrC:=fun σ ρ vh H xs ws Q hd S r p=>by
 match xs,r,p with
 | [],_,p=>exact p.elim
 | [.int i],r,p =>
  obtain ⟨w,wt,rfl,r1,hn⟩:=r
  cases (show wt=[] from hn)
  cases r1
  simp only [gStrC] at p
  by_cases hz:i.natAbs.log2 < 1920
  ·rw [if_pos hz] at p;exact ⟨i,rfl,hz,Post.here p S rfl⟩
  ·rw [if_neg hz] at p;exact p.elim
 | [.non],_,p=>exact p.elim
 | [.bl _],_,p=>exact p.elim
 | [.str _],_,p=>exact p.elim
 | [.tup _],_,p=>exact p.elim
 | [.ref _],_,p=>exact p.elim
 | [.adr _],_,p=>exact p.elim
 | [.ty _],_,p=>exact p.elim
 | [.exc _ _ _],_,p=>exact p.elim
 | y :: _ :: _,_,p=>cases y <;> exact p.elim
theorem e_strC (hg:Gl X "str") (hm:X.mg "str" = none) (ha:AOk tb X (e :: es) fs) (he:starEach (e :: es) X.env=(false,eval e X.env) :: starEach es X.env:=by rfl) (hpl:(backTo pos (starEach es X.env)).any (·.1)=false:=by rfl) :
  EOk tb X (.Call (.Name "str" p) (e :: es) [] pos) (fCB gStrC fs):=e_callTy call_str_int cb_strC hg hm (by first | rfl | decide +kernel) ha (by decide) (by decide) he hpl
def gTup:FF:=fun xs=>match xs with
 | [.tup ys]=>M.ret (.tup ys)
 | [.ref l]=>fun h=>match lsOf h l with
  | some ys=>.ok (.tup ys) h
  | none=>.bad
 | _=>M.bad
theorem cb_tup:CB tb X (fun xs H Q=>∃ p ys,xs=[V.ref p]/\((SqL X.K H p ys/\∀ l,H l=none->Q (.ref l) (upd H l (.tup ys)))\/(SqT X.K H p ys/\Q (.ref p) H))) gTup:=fun σ ρ vh H xs ws Q hd S r p=>by
 match xs,r,p with
 | [],_,p=>exact p.elim
 | [.tup ys],r,p =>
  obtain ⟨w,wt,rfl,r1,hn⟩:=r
  cases (show wt=[] from hn)
  have r1':=r1
  obtain ⟨a1,vs,rfl,h1,q1⟩:=r1
  exact ⟨a1,vs,rfl,.inr ⟨SqT.of h1,Post.here p S r1'⟩⟩
 | [.ref l],r,p =>
  obtain ⟨w,wt,rfl,r1,hn⟩:=r
  cases (show wt=[] from hn)
  obtain ⟨a1,h1,rfl⟩:=r1
  simp only [gTup] at p
  cases el:lsOf vh l with
  | none=>rw [el] at p;exact p.elim
  | some ys =>
   rw [el] at p
   obtain ⟨vs,rs,hr⟩:=ls_rd S el h1
   exact ⟨a1,vs,rfl,.inl ⟨.inl hr,fun p' hp=>Post.tup p S rs hp⟩⟩
 | [.non],_,p=>exact p.elim
 | [.bl _],_,p=>exact p.elim
 | [.int _],_,p=>exact p.elim
 | [.str _],_,p=>exact p.elim
 | [.adr _],_,p=>exact p.elim
 | [.ty _],_,p=>exact p.elim
 | [.exc _ _ _],_,p=>exact p.elim
 | y :: _ :: _,_,p=>cases y <;> exact p.elim
theorem e_tupC (hg:Gl X "tuple") (hm:X.mg "tuple" = none) (ha:AOk tb X (e :: es) fs) (he:starEach (e :: es) X.env=(false,eval e X.env) :: starEach es X.env:=by rfl) (hpl:(backTo pos (starEach es X.env)).any (·.1)=false:=by rfl) :
  EOk tb X (.Call (.Name "tuple" p) (e :: es) [] pos) (fCB gTup fs):=e_callTy call_tuple_of cb_tup hg hm (by first | rfl | decide +kernel) ha (by decide) (by decide) he hpl
end
end FS
namespace PySem
open Sem (wp)
open Builtin Builtin.ObjectAttr
section
variable {prog:Program} {w:World} {A:Around} {E:Value->Shared->Prop} {h:Heap} {g:Array GenState} {d:Drawn} {t:Nat} {os:OsState}
variable {nm q:Str} {C N:Addr} {bs bm bmB:List Value} {hdct:Bool} {sn:List Str} {sub:List Value} {ab:Bool} {col:Option Bool} {dd:Option Addr} {k0 k1 k2 k3 k5:Option Value} {B newId initId:String}
theorem type_call_exc_initT (F:ExcBaseFacts B newId initId bmB) (T:OwnTail h bmB bm) {mN:Str->Option Value} {rest:List Value} {fI:Addr} {oI:Obj} {Q:Fin->Shared->Prop}
  (hC:h.get? C=some (excClassObj nm q C N bs bm hdct sn sub ab col dd k0 k1 k2 k3 k5 newId)) (hn:h.Ns N mN) (hi:mN "__init__" = some (.ref fI))
  (hfI:h.get? fI=some oI) (hfc:oI.cls=.type "function")
  (hq:∀ h' e,Heap.MadeExcOf h h' e (.ref C) rest->h.objs.size<=h'.objs.size ->
   wpAny (model prog w) A (call (.ref fI) (.ref e :: rest)) (fun r s'=>r=.none/\Q (.done (.ret (.ref e))) s') E ⟨h',g,d,t,os⟩) (hrest:rest.length<=sizeLine:=by size_fits) :
  wpAny (model prog w) A (Builtin.«type.__call__» ⟨.ref C :: rest,[]⟩) Q E ⟨h,g,d,t,os⟩:=by
 repeat (first | with_reducible refine wpAny_loadPart_at hC ?_ | with_reducible refine wpAny_madeBy_exc hC ?_ | wp_step)
 refine codeAny_call_builtin_code (Code.quiet_builtin _ F.quiet) (wpAny_check_new_subT F T hC ?_)
 refine codeAny_exc_new_subT F T hC ?_ hrest
 show wpAny _ _ _ _ _ _
 have hC₁:=Heap.get?_push_of_some { cls:=.ref C,data:=.fields #[.ref h.objs.size,.none,.none,.none,.bool false,.none] }
  (Heap.get?_push_of_some { cls:=.type "tuple",data:=.seq rest.toArray } hC)
 have hfI₁:=Heap.get?_push_of_some { cls:=.ref C,data:=.fields #[.ref h.objs.size,.none,.none,.none,.bool false,.none] }
  (Heap.get?_push_of_some { cls:=.type "tuple",data:=.seq rest.toArray } hfI)
 have hn₁:((h.push { cls:=.type "tuple",data:=.seq rest.toArray }).push { cls:=.ref C,data:=.fields #[.ref h.objs.size,.none,.none,.none,.bool false,.none] }).Ns N mN :=
  let ⟨o,es,ep,e,r⟩:=hn;⟨o,es,ep,Heap.get?_push_of_some _ (Heap.get?_push_of_some _ e),r⟩
 have hget:((h.push { cls:=.type "tuple",data:=.seq rest.toArray }).push
   { cls:=.ref C,data:=.fields #[.ref h.objs.size,.none,.none,.none,.bool false,.none] }).get? (h.objs.size + 1)=some
   { cls:=.ref C,data:=.fields #[.ref h.objs.size,.none,.none,.none,.bool false,.none] }:=by heap_get
 have hcC:(Value.ref C :: bm).contains (.ref C)=true:=by simp
 have T₁:=T.keeps (h':=(h.push { cls:=.type "tuple",data:=.seq rest.toArray }).push { cls:=.ref C,data:=.fields #[.ref h.objs.size,.none,.none,.none,.bool false,.none] })
  fun b o e=>Heap.get?_push_of_some _ (Heap.get?_push_of_some _ e)
 unfold isInstance
 repeat (first | with_reducible refine wpAny_loadPart_at hget ?_ | (with_reducible refine wpAny_isSubtype_exc hC₁ ?_;rw [hcC]) | wp_step)
 show wpAny _ _ (typeLookup (.ref C) _) _ _ _
 refine wpAny_typeLookup_tail hC₁ hn₁ T₁ F.mroIs F.init.lookup ?_
 rw [hi]
 refine wpAny_holding (wpAny_bind ?_)
 unfold bindSpecial
 refine wpAny_bind (wpAny_typeOf (T:="function") ⟨_,hfI₁,hfc⟩ ?_)
 rw [if_pos (by decide)]
 refine wpAny_pure (wpAny_bind (wpAny_mono (hq _ (h.objs.size + 1) ⟨fun b o hb=>Heap.get?_push_of_some _ (Heap.get?_push_of_some _ hb),Heap.get?_none_of_le (Nat.le_succ _),h.objs.size,hget,Heap.get?_none_of_le (Nat.le_refl _),?_⟩ (by simp only [Heap.size_push];omega)) (fun r s' hr=>?_) fun _ _ x=>x))
 ·exact Heap.get?_push_of_some _ (Heap.get?_push_at rfl rfl)
 ·obtain ⟨rfl,hQ⟩:=hr
  wp_walk
  exact hQ
theorem call_exc_initT (F:ExcBaseFacts B newId initId bmB) (T:OwnTail h bmB bm) {mN:Str->Option Value} {rest:List Value} {fI:Addr} {oI:Obj} {Q:Value->Shared->Prop}
  (hC:h.get? C=some (excClassObj nm q C N bs bm hdct sn sub ab col dd k0 k1 k2 k3 k5 newId)) (hn:h.Ns N mN) (hi:mN "__init__" = some (.ref fI))
  (hfI:h.get? fI=some oI) (hfc:oI.cls=.type "function")
  (hq:∀ h' e,Heap.MadeExcOf h h' e (.ref C) rest->h.objs.size<=h'.objs.size ->
   wpAny (model prog w) (A.under (.builtin "type.__call__" ⟨.ref C :: rest,[]⟩)) (call (.ref fI) (.ref e :: rest)) (fun r s'=>r=.none/\Q (.ref e) s') E ⟨h',g,d,t,os⟩) (hrest:rest.length<=sizeLine:=by size_fits) :
  wpAny (model prog w) A (call (.ref C) rest) Q E ⟨h,g,d,t,os⟩:=by
 have f1:=tc_lookup
 have f2:=tc_bind (.ref C)
 have hT:(⟨h,g,d,t,os⟩:Shared).TypeIs (.ref C) "type" := ⟨_,hC,rfl⟩
 refine wpAny_call (codeAny_of_tree ?_)
 show wpAny _ _ (callAny (.ref C) _) _ _ _
 repeat (any_goals (first | assumption | with_reducible refine wpAny_loadPart_at hC ?_ | wp_step))
 refine ⟨rfl,?_⟩
 refine codeAny_call_builtin_at (Code.quiet_builtin _ (by decide +kernel)) entry_typeCall (wpAny_check_type_call_sub hC (type_call_exc_initT (hrest:=hrest) F T hC hn hi hfI hfc fun h' e hm hz=>?_))
 exact hq h' e hm hz
theorem raiseStmt_made_subD {M:Model} {env:Env} {s:Shared} {x:Sem Value} {Q:Flow->Shared->Prop} (hbase:bm.contains (.type "BaseException")=true) (hh:A.handled=none)
  (h:wpAny M A x (fun v s₁=>∃ e dO t,v=.ref e/\s₁.heap.get? C=some (excClassObj nm q C N bs bm hdct sn sub ab col dd k0 k1 k2 k3 k5 newId) /\
   s₁.heap.get? e=some { cls:=.ref C,dict:=dO,data:=.fields #[.ref t,.none,.none,.none,.bool false,.none] }/\E (.ref e) s₁) E s) :
  wpAny M A (raiseStmt env (some x) none) Q E s:=by
 have hcB:(Value.ref C :: bm).contains (.type "BaseException")=true:=by rw [List.contains_cons,hbase,Bool.or_true]
 unfold raiseStmt
 refine wpAny_bind (wpAny_mono h (fun v s₁ h₁=>?_) fun _ _ x=>x)
 obtain ⟨e,dO,t,rfl,hC,he,hE⟩:=h₁
 obtain ⟨hp,g,d,tk,os⟩:=s₁
 repeat (first | with_reducible refine wpAny_loadPart_at he ?_ | with_reducible refine wpAny_loadPart_at hC ?_ | (with_reducible refine wpAny_isSubtype_exc hC ?_;rw [hcB]) | wp_step)
 exact wpAny_raiseNew_none hh hE
end
end PySem
namespace FS
open PySem PySem.Spec PySem.Calls PyProof.Rows PySem.W
def excMro:List Value->Bool
 | .ref _ :: r=>excMro r
 | l=>l == bmV
theorem refuse_exc (self:Value):∀ {l:List Value},excMro l=true->refuseLoop self "__setattr__" l=pure ()
 | [],e=>by cases e
 | v :: r,e=>by
  cases v with
  | ref c=>rw [refuseLoop_ref];exact refuse_exc self e
  | _ =>
   have:=eq_of_beq (show ((_ :: r) == bmV)=true from e)
   rw [this];exact PySem.F.store_ValueError.passes self
section
variable {prog:Program} {w:World} {A:Around} {E:Value->Shared->Prop} {s:Shared} {K:Frag} {x C:Addr}
theorem osa_exc {ox:Obj} {od:Option Obj} {cd:ClassData} {name:Str} {tk:Tok} {v:Value} {R:Result->Shared->Prop} (X:K.In s.heap) (I:InstAt s.heap x ox C od) (hc:clsIn K C=some cd) (hp:excMro cd.mro=true) (hmo:mroIn K C (.type "object")=some true) (ht:takerIn K C name=some none)
  (h:∀ b,wpAny (model prog w) A.in1 (Builtin.ObjectAttr.storeInOwnDict (.ref x) (.ref C) (.str name tk) name v b)
   (fun fin s'=>match fin with | .done f=>R (.ok f) s' | .again c'=>c'.quiet=true/\codeAny (model prog w) A c' R s') (fun e s'=>R (.error e) s') s) :
  codeAny (model prog w) A (.call (.builtin "object.__setattr__") ⟨[.ref x,.str name tk,v],[]⟩) R s:=by
 have SF:=PySem.F.store_object
 have sub:Looks (model prog w) s.heap (isInstance (.ref x) (.type "object")) true:=I.type.andThen (looks_mroIn X hmo)
 refine codeAny_call_builtin SF.slot.plain SF.entry (@check_slot (model prog w) _ _ s "object.__setattr__" "object" "__setattr__" (.ref x) [.str name tk,v] [] _ SF.kind SF.split sub (SF.args (.ref x) (.str name tk) v) ?_)
 obtain ⟨attr,ha,hr⟩:=Option.bind_eq_some_iff.mp ht
 have hm:Looks (model prog w) s.heap (mroOf (.ref C)) cd.mro:=(looks_clsIn X hc).andThen .now
 have L3:Looks (model prog w) s.heap (Builtin.ObjectAttr.storeTaker? attr) none:=by
  cases attr with
  | none=>exact .now
  | some a =>
   obtain ⟨b,hb,z⟩:=Option.map_eq_some_iff.mp hr
   refine (looks_takesIn X hb).andThen ?_
   cases b with
   | true=>cases z
   | false=>exact .now
 rw [osa_eq,refuse_eq]
 refine wpAny_bind (wpAny_bind (I.type.here (wpAny_bind (hm.here ?_))))
 rw [refuse_exc _ hp]
 refine wpAny_pure (wpAny_bind (I.type.here (wpAny_bind ((looks_findIn X ha).here (wpAny_bind (L3.here ?_))))))
 exact h _
theorem exc_set {t0:Addr} {cd:ClassData} {name:Str} {v:Value} {Q:Unit->Shared->Prop} (X:K.In s.heap) (hx:s.heap.get? x=some { cls:=.ref C,data:=.fields #[.ref t0,.none,.none,.none,.bool false,.none] })
  (hc:clsIn K C=some cd) (hp:excMro cd.mro=true) (hd:cd.hasDict=true) (hmo:mroIn K C (.type "object")=some true) (ht:takerIn K C name=some none)
  (hs:findIn K (.ref C) "__setattr__" = some (some (.builtin "object.__setattr__")))
  (h:∀ h' tk,(∀ b o,b ≠ x->s.heap.get? b=some o->h'.get? b=some o)->h'.get? x=some { cls:=.ref C,dict:=some s.heap.objs.size,data:=.fields #[.ref t0,.none,.none,.none,.bool false,.none] } ->
   h'.Ns1 s.heap.objs.size (fun y=>if y=name then some v else none)->Q () { s with heap:=h',toks:=tk }):wpAny (model prog w) A (setAttr (.ref x) name v) Q E s:=by
 obtain ⟨hh,g,d,t,os⟩:=s
 have I:InstAt hh x { cls:=.ref C,data:=.fields #[.ref t0,.none,.none,.none,.bool false,.none] } C none:=⟨hx,rfl,rfl,trivial⟩
 have hd':typeHasDict (.ref C)=true:=rfl
 refine set_plain X I hs (osa_exc (s:=⟨hh,g,d,t + 1,os⟩) X I hc hp hmo ht fun b=>?_)
 have hx₁:(hh.push { cls:=.type "dict",data:=.dict #[] }).get? x=some { cls:=.ref C,data:=.fields #[.ref t0,.none,.none,.none,.bool false,.none] }:=Heap.get?_push_of_some _ hx
 have hxs:x ≠ hh.objs.size:=Nat.ne_of_lt (Heap.lt_size hx)
 refine wpAny_bind (wpAny_pure (wpAny_bind (wpAny_bind (wpAny_loadPart hx (wpAny_bind (PySem.W.Looks.here (s:=⟨hh,g,d,t + 1,os⟩) (PySem.W.looks_clsIn X hc) ?_))))))
 rw [hd]
 refine wpAny_bind (wpAny_alloc' ?_)
 refine wpAny_bind (wpAny_update' hx₁ ?_)
 refine wpAny_pure ?_
 have hgd:((hh.push { cls:=.type "dict",data:=.dict #[] }).update x fun o=>{ cls:=o.cls,dict:=some hh.objs.size,data:=o.data,slots:=o.slots }).get? hh.objs.size
   = some { cls:=.type "dict",data:=.dict #[] } :=
  (Heap.get?_update_ne _ _ _ _ hxs.symm).trans (Heap.get?_push_at rfl rfl)
 have hnd:((hh.push { cls:=.type "dict",data:=.dict #[] }).update x fun o=>{ cls:=o.cls,dict:=some hh.objs.size,data:=o.data,slots:=o.slots }).Ns hh.objs.size (fun _=>none) :=
  ⟨_,#[],_,hgd,rfl,fun e he=>absurd he (by simp),fun _=>rfl⟩
 show wpAny _ _ (Builtin.ObjectAttr.storeInDict hh.objs.size (.str name t) name v) _ _ _
 unfold Builtin.ObjectAttr.storeInDict Builtin.ObjectAttr.newKeyGuard
 refine wpAny_bind (wpAny_pure (wpAny_bind (wpAny_nsSet1 (Heap.Ns1.of_empty hnd) fun h' hn' hs=>?_)))
 obtain ⟨oD,esD,epD,hoD,hdD,hcD⟩:=hn'.count (Within.cons name v Within.nil)
 refine wpAny_bind (wpAny_lookBehind hoD (by rw [hdD];exact pastItsLine_dict (Nat.le_trans hcD (by rw [List.length_cons,List.length_nil,sizeLine_eq];omega))) ?_)
 refine wpAny_pure (h h' _ (fun b ob hbx hb=>?_) ?_ hn')
 ·exact (hs.2 b (Nat.ne_of_lt (Heap.lt_size hb))).trans ((Heap.get?_update_ne _ _ _ _ hbx).trans (Heap.get?_push_of_some _ hb))
 ·exact (hs.2 x hxs).trans (Heap.get?_update_self _ hx₁ rfl)
end
end FS
namespace FS
open PySem PySem.Spec PyProof.Rows L2 FX
def excInI (K:PySem.W.Frag) (C fI:Addr):Bool:=match K.lookup C with
 | some ⟨.type "type",_,.cls cd,sl⟩=>(match cd.mro,sl.toList with
  | .ref C' :: bm,[_,_,_,_,some (.builtin n),_]=>C' == C && n == "ValueError.__new__" && !cd.hasDel && PySem.W.tailIn K bmV bm && PySem.W.nsOkIn K cd.ns && PySem.W.nsIn K cd.ns "__init__" == some (some (.ref fI)) && cd.hasDict && excMro cd.mro
  | _,_=>false)
 | _=>false
structure XIat (K:PySem.W.Frag) (C fI:Addr):Type where
 bm:List Value
 N:Addr
 nm:Str
 q:Str
 bs:List Value
 hdct:Bool
 sn:List Str
 sub:List Value
 ab:Bool
 col:Option Bool
 dd:Option Addr
 k0:Option Value
 k1:Option Value
 k2:Option Value
 k3:Option Value
 k5:Option Value
 get:K.lookup C=some (excClassObj nm q C N bs bm hdct sn sub ab col dd k0 k1 k2 k3 k5 "ValueError.__new__")
 ok:PySem.W.nsOkIn K N=true
 ini:PySem.W.nsIn K N "__init__" = some (some (.ref fI))
 tail:PySem.W.tailIn K bmV bm=true
 cd:ClassData
 cls:PySem.W.clsIn K C=some cd
 hd:cd.hasDict=true
 mro:excMro cd.mro=true
theorem xiat_of {K:PySem.W.Frag} {C fI:Addr} (q:excInI K C fI=true):Nonempty (XIat K C fI):=by
 unfold excInI at q
 split at q
 ·rename_i dd cd sl ho
  split at q
  ·rename_i C' bm k0 k1 k2 k3 n k5 hm hs
   simp only [Bool.and_eq_true,beq_iff_eq,Bool.not_eq_true'] at q
   obtain ⟨⟨⟨⟨⟨⟨⟨rfl,rfl⟩,hdel⟩,ht⟩,hok⟩,hni⟩,hdd⟩,hmm⟩:=q
   have hcl:PySem.W.clsIn K C'=some cd:=by unfold PySem.W.clsIn;rw [ho]
   obtain ⟨nm,bs,mro,ns,qn,hd,sn,sub,ab,col,del⟩:=cd
   dsimp only at hm hdel hok hni hdd hmm
   subst hm hdel
   have hsl:sl=#[k0,k1,k2,k3,some (.builtin "ValueError.__new__"),k5]:=by
    obtain ⟨l⟩:=sl
    simp only at hs
    rw [hs]
   subst hsl
   exact ⟨⟨bm,ns,nm,qn,bs,hd,sn,sub,ab,col,dd,k0,k1,k2,k3,k5,ho,hok,hni,ht,_,hcl,hdd,hmm⟩⟩
  ·cases q
 ·cases q
theorem ns_some_of {K:PySem.W.Frag} {h:Heap} {N:Addr} {n:Str} {v:Value} (X:K.In h) (ok:PySem.W.nsOkIn K N=true) (e:PySem.W.nsIn K N n=some (some v)):h.nsMap N n=some v:=by
 obtain ⟨o,es,ep,ho,hd,_,hf⟩:=(Heap.Ns.of_isNs (PySem.W.isNs_of_in X ok))
 unfold PySem.W.nsIn at e
 split at e
 ·rename_i c d es' n' sl q
  have:=X _ _ q
  rw [ho] at this
  cases this
  cases hd
  split at e
  ·rename_i en hen
   cases e
   rw [<- hf];unfold nsFind findBy;rw [<- Array.find?_toList,hen];rfl
  ·split at e <;> cases e
 ·cases e
structure XInit (K:PySem.W.Frag) (C fI:Addr) (f p:Str):Prop where
 xi:excInI K C fI=true
 mo:PySem.W.mroIn K C (.type "object")=some true
 tk:PySem.W.takerIn K C f=some none
 sa:PySem.W.findIn K (.ref C) "__setattr__" = some (some (.builtin "object.__setattr__"))
 fn:∃ (od:Option Addr) (name qual:Str) (params:Arguments) (scope:Scope) (kV doc pm:Value) (an:Option Addr) (cdv ct:Value) (osl:Array (Option Value)) (p1 p2 p3 p4:Pos),
  K.lookup fI=some ⟨.type "function",od,.func (PySem.W.fnOf name qual params [.Assign [.Attribute (.Name "self" p1) f p2] (.Name p p3) p4] scope .none kV doc pm an cdv ct),osl⟩/\PySem.W.codeIn K cdv qual=true /\
  (∀ u v:Value,bindArgs (PySem.W.fnOf name qual params [.Assign [.Attribute (.Name "self" p1) f p2] (.Name p p3) p4] scope .none kV doc pm an cdv ct) ⟨[u,v],[]⟩=pure [(("self" : Str),u),(p,v)]) /\
  scope.kind=.function/\scope.isCoroutine=false/\scope.isGenerator=false/\scope.names.lookup ("self" : Str)=some .local/\scope.names.lookup p=some .local
 ps:p ≠ "self"
 pd:(p == ("__debug__" : Str))=false
section
variable {P:Program} {w:World} {K:PySem.W.Frag} {C fI e t0:Addr} {f p:Str} {A:Around} {E:Value->Shared->Prop} {s:Shared} {u:Value}
theorem init_run {Q:Value->Shared->Prop} (D:XInit K C fI f p) (KX:K.In s.heap) (lim:s.heap.NoLimit) (hdp:A.depth < recursionLimit)
  (he:s.heap.get? e=some { cls:=.ref C,data:=.fields #[.ref t0,.none,.none,.none,.bool false,.none] })
  (hQ:∀ h' tk d,(∀ b o,b ≠ e->s.heap.get? b=some o->h'.get? b=some o)->h'.get? e=some { cls:=.ref C,dict:=some d,data:=.fields #[.ref t0,.none,.none,.none,.bool false,.none] } ->
   s.heap.get? d=none->s.heap.objs.size<=d->h'.Ns1 d (fun y=>if y=f then some u else none)->Q .none { s with heap:=h',toks:=tk }) :
  wpAny (model P w) A (call (.ref fI) [.ref e,u]) Q E s:=by
 obtain ⟨xi⟩:=xiat_of D.xi
 obtain ⟨od,name,qual,params,scope,kV,doc,pm,an,cdv,ct,osl,p1,p2,p3,p4,lk,hcd,hb,hk,hco,hgen,hself,hp⟩:=D.fn
 refine wpAny_call (codeAny_call_function hdp (KX _ _ lk) rfl hco hgen rfl (PySem.W.codeRec_of KX hcd) (BindsTo.of_eq (hb (.ref e) u) _ _ _ _ ?_))
 refine wpAny_newFunctionEnv_cells hk (fun y hy=>?_) fun env henv s1 x=>?_
 ·rcases List.mem_cons.mp hy with z | z
  ·rw [z];exact .inl hself
  ·rcases List.mem_cons.mp z with z | z
   ·rw [z];exact .inl hp
   ·exact absurd z (by simp)
 subst henv
 refine ⟨lim.keeps x.toInCall.keep,codeAny_func ?_⟩
 obtain ⟨h1,tk,rfl,hk1⟩:=x.done
 have ns:=x.toInCall.ns
 have hl1:bindL (newEnv scope s.heap.objs.size mainGlobals (cellsFrom (s.heap.objs.size + 1) scope.names []) (qual++".<locals>.") (some fI) cdv none builtinsNs).kindOf [(("self" : Str),.ref e),(p,u)] (fun _=>none) ("self" : Str)=some (.ref e) :=
  bindL_get (P:=[("self" : Str),p]) (vs:=[.ref e,u]) (i:=0) (by simp [Ne.symm D.ps]) rfl rfl hself
 have hl2:bindL (newEnv scope s.heap.objs.size mainGlobals (cellsFrom (s.heap.objs.size + 1) scope.names []) (qual++".<locals>.") (some fI) cdv none builtinsNs).kindOf [(("self" : Str),.ref e),(p,u)] (fun _=>none) p=some u :=
  bindL_get (P:=[("self" : Str),p]) (vs:=[.ref e,u]) (i:=1) (by simp [Ne.symm D.ps]) rfl rfl hp
 refine wpAny_execs_cons (plainObj_wpAny_Assign_Attribute (wpAny_Name (wpAny_loadName_local hk hp ns hl2 (wpAny_Name (wpAny_loadName_local hk hself ns hl1 ?_) (by decide))) D.pd))
 refine exc_set (s:={ s with heap:=h1,toks:=tk }) (KX.keeps hk1) (hk1 _ _ he) xi.cls xi.mro xi.hd D.mo D.tk D.sa fun h' tk' kp hx' hns=>wpAny_execs_nil ?_
 have hle:s.heap.objs.size<=h1.objs.size:=Nat.le_of_lt ns.lt
 exact hQ h' tk' h1.objs.size (fun b o hb z=>kp b o hb (hk1 b o z)) hx' (Heap.get?_none_of_le hle) hle hns
end
def sRaise1 (C:Addr) (f:Str) (fs:FA):FSt:=fun τ=>M.then (fs τ) fun xs h=>match xs with
 | [v]=>.exc ⟨C,[f],[v]⟩ h
 | _=>.bad
section
variable {tb:Tb} {X:Cx} {pos np cpos:Pos} {e:Expr} {es:List Expr} {fs:FA} {x f p:Str} {C fI:Addr}
theorem no_track {pins:List (Addr × Obj)} {σ:St} {H:Hp} {s:Shared} (I:Inv X pins σ H s) {a:Addr} (h:s.heap.get? a=none):H a=none:=by
 cases z:H a with
 | none=>rfl
 | some u =>
  have hlt:=I.hok.lt z
  exfalso
  have ok:=I.hok a u z
  have:∃ o,s.heap.get? a=some o:=by
   cases u with
   | lst xs=>obtain ⟨_,_,_,_,e⟩:=ok;exact ⟨_,e⟩
   | tup xs=>obtain ⟨_,_,_,o,e,_⟩:=ok;exact ⟨_,e⟩
   | dK kvs=>obtain ⟨_,_,_,_,o,_,_,e,_⟩:=ok;exact ⟨_,e⟩
   | dT kvs=>obtain ⟨_,_,_,_,o,_,_,e,_⟩:=ok;exact ⟨_,e⟩
   | set S n=>obtain ⟨o,_,_,_,e,_⟩:=ok;exact ⟨_,e⟩
   | ins C dx fs=>obtain ⟨_,_,_,e,_⟩:=ok;exact ⟨_,e⟩
   | own y=>obtain ⟨_,e⟩:=ok;exact ⟨_,e⟩
   | xd fs=>obtain ⟨_,⟨_,_,_,e,_⟩,_⟩:=ok;exact ⟨_,e⟩
   | rng lo hi=>obtain ⟨_,_,_,e⟩:=ok;exact ⟨_,e⟩
   | frz o u=>exact ⟨_,ok.1⟩
   | tbl ps=>exact ⟨_,ok⟩
   | met g y=>exact ⟨_,ok⟩
   | ext φ=>exact ok.2.1
  obtain ⟨o,q⟩:=this
  rw [h] at q;cases q
theorem exc_new1 {pins:List (Addr × Obj)} {σ:St} {H:Hp} {s:Shared} {ρ:List Addr} {vh:VH} {h':Heap} {tk:Nat} {a d t0:Addr} {v:PV} {wv:V} {u:Value} (I:Inv X pins σ H s) (S:Sim tb ρ vh H) (r:Rep ρ H v wv) (ru:RelV wv u)
  (kp:∀ b o,s.heap.get? b=some o->h'.get? b=some o) (ne:s.heap.get? a=none) (nd:s.heap.get? d=none) (hd:s.heap.objs.size<=d) (had:a ≠ d)
  (hx:h'.get? a=some { cls:=.ref C,dict:=some d,data:=.fields #[.ref t0,.none,.none,.none,.bool false,.none] }) (hns:h'.Ns1 d (fun y=>if y=f then some u else none)) :
  XPost tb X σ ρ H ⟨C,[f],[v]⟩ vh (.ref a) { s with heap:=h',toks:=tk }:=by
 have nH:H d=none:=no_track I nd
 have nHa:H a=none:=no_track I ne
 have kf:Keep ρ ρ H (upd H d (.xd [(f,wv)])):=Keep.new nH
 have I1:Inv X pins σ (upd H d (.xd [(f,wv)])) { s with heap:=h',toks:=tk }:=I.laid (a:=d) (o:=.xd [(f,wv)]) kp hd ⟨_,hns,fun y=>by
  by_cases hy:y=f
  ·subst hy
   rw [if_pos rfl]
   simp only [List.lookup,beq_self_eq_true]
   exact ru
  ·rw [if_neg hy]
   have:(y == f)=false:=beq_eq_false_iff_ne.mpr hy
   simp only [List.lookup,this]
   trivial⟩
 refine ⟨ρ,_,a,List.prefix_rfl,kf,unpin I1,S.side nH,rfl,⟨?_,by rw [upd_ne had];exact nHa,fun hx0=>?_,fun q hq z=>?_,some d,.inr ⟨d,[wv],rfl,upd_same,rfl,⟨wv,[],rfl,r.mono List.prefix_rfl kf,rfl⟩⟩,.inl ⟨6,by decide,_,_,hx,⟨rfl,rfl⟩,rfl,rfl,rfl,rfl⟩⟩⟩
 ·cases z:X.base.get? a with
  | none=>rfl
  | some o=>have:=(I.bs a o z).1;rw [ne] at this;cases this
 ·cases z:X.s₀.heap.get? a with
  | none=>rfl
  | some o=>obtain ⟨o',q⟩:=I.base.there a o z (by rw [hx0];simp);rw [ne] at q;cases q
 ·have:=(I.pin q (List.mem_append_left _ hq)).1
  rw [z,ne] at this;cases this
theorem s_raise1 (hc:X.calm=true) (hr:Room 1 X.A) (D:XInit X.K C fI f p) (hg:Gl X x) (hm:X.mg x=some (.ref C)) (ha:AOk tb X [e] fs) (hdb:(x == ("__debug__" : Str))=false:=by decide)
  (he:starEach [e] X.env=(false,eval e X.env) :: starEach [] X.env:=by rfl) (hpl:(backTo cpos (starEach [e] X.env)).any (·.1)=false:=by rfl):SOk tb X (.Raise (some (.Call (.Name x np) [e] [] cpos)) none pos) (sRaise1 C f fs):=by
 intro pins s σ H Dn I ⟨ρ,vh,τ,st,S,q⟩
 obtain ⟨xa⟩:=xiat_of D.xi
 have hA:=ha cpos pins s σ H (fun ws H1=>∃ ρ1 vh1 v w,ws=[w]/\Sim tb ρ1 vh1 H1/\Rep ρ1 H1 v w/\∀ σ ev s',XPost tb X σ ρ1 H1 ⟨C,[f],[v]⟩ vh1 ev s'->X.xe ev s') I ⟨ρ,vh,τ,st,S,seqAS (k:=fun xs h=>match xs with | [v]=>.exc ⟨C,[f],[v]⟩ h | _=>.bad) q fun vh1 ρ1 H1 v1 w1 p1 k1 S1 r1 q1=>?_⟩
 ·rw [arm_exec_Raise]
  simp only [evalOpt,Option.map]
  refine wpAny_bind (wpAny_standAt (raiseStmt_made_subD (C:=C) (nm:=xa.nm) (q:=xa.q) (N:=xa.N) (bs:=xa.bs) (bm:=xa.bm) (hdct:=xa.hdct) (sn:=xa.sn) (sub:=xa.sub) (ab:=xa.ab) (col:=xa.col) (dd:=xa.dd) (k0:=xa.k0) (k1:=xa.k1) (k2:=xa.k2) (k3:=xa.k3) (k5:=xa.k5) (newId:="ValueError.__new__") (tail_has (PySem.W.tail_of_in I.kIn xa.tail)) (I.ok.hd hc) (wpAny_bind (wpAny_mono (wpAny_Call_ofName (ld_glob I hg hm ?_ hdb)) (fun v s₃ h₃=>wpAny_bind (wpAny_standAt (wpAny_pure h₃))) fun _ _ x=>x))))
  rw [he] at hA hpl ⊢
  unfold callWith
  refine wpAny_bind (wpAny_holding (wpAny_mono (Calls.evalArgs_plain (Q:=fun a s₂=>a.kw=[]/\AP X pins σ (fun ws H1=>∃ ρ1 vh1 v w,ws=[w]/\Sim tb ρ1 vh1 H1/\Rep ρ1 H1 v w/\∀ σ ev s',XPost tb X σ ρ1 H1 ⟨C,[f],[v]⟩ vh1 ev s'->X.xe ev s') a.pos s₂) (thn hA fun us s1 h1=>⟨rfl,h1⟩)) (fun a s₂ h₂=>wpAny_bind (wpAny_standAt ?_)) fun _ _ x=>x))
  obtain ⟨apos,akw⟩:=a
  obtain ⟨hkw,vs,H1,I1,rv,ρ1,vh1,v,w,rfl,S1,r1,hX⟩:=h₂
  obtain rfl:akw=[]:=hkw
  obtain ⟨u,rfl,ru⟩:=vals1 rv
  obtain ⟨hp,g,d,tk,os⟩:=s₂
  have hC:=I1.kIn _ _ xa.get
  have hn:hp.Ns xa.N (hp.nsMap xa.N):=.of_isNs (PySem.W.isNs_of_in I1.kIn xa.ok)
  have hi:hp.nsMap xa.N "__init__" = some (.ref fI):=ns_some_of I1.kIn xa.ok xa.ini
  obtain ⟨od,name,qual,params,scope,kV,doc,pm,an,cdv,ct,osl,p1,p2,p3,p4,lk,_⟩:=D.fn
  simp only [hpl]
  refine wpAny_bind (wpAny_keeperOf_exc hC ?_)
  refine wpAny_bind (call_exc_initT (hrest:=by show 1<=sizeLine;decide) PySem.F.excBase_ValueError (PySem.W.tail_of_in I1.kIn xa.tail) hC hn hi (I1.kIn _ _ lk) rfl fun h' e' hm' hsz=>?_)
  obtain ⟨t0,ht,nt,_⟩:=hm'.there
  have lim:=I1.nolimit.keeps hm'.keeps
  refine init_run (s:=⟨h',g,d,tk,os⟩) D (I1.kIn.keeps hm'.keeps) lim (by have:=hr.dp;rw [make_depth];omega) ht fun h2 tk2 d2 kp2 hx2 nd2 hd2 hns2=>⟨rfl,wpAny_bind (wpAny_holding (wpAny_point (wpAny_pure ?_)))⟩
  have ne':e' ≠ d2:=fun z=>by rw [<- z,ht] at nd2;cases nd2
  have kpp:∀ b o,hp.get? b=some o->h2.get? b=some o:=fun b o z=>kp2 b o (fun zz=>by rw [zz,hm'.new] at z;cases z) (hm'.keeps b o z)
  refine ⟨e',some d2,t0,rfl,kpp _ _ hC,hx2,hX σ _ _ (exc_new1 (s:=⟨hp,g,d,tk,os⟩) I1 S1 r1 ru kpp hm'.new ?_ (Nat.le_trans hsz hd2) ne' hx2 hns2)⟩
  exact Heap.get?_none_of_le (Nat.le_trans hsz hd2)
 ·match v1,r1,q1 with
  | [],_,q1=>exact q1.elim
  | [v],r1,q1 =>
   obtain ⟨w,ws,rfl,r2,hn⟩:=r1
   cases (show ws=[] from hn)
   exact ⟨ρ1,vh1,v,w,rfl,S1,r2,q1⟩
  | _ :: _ :: _,_,q1=>exact q1.elim
end
end FS
namespace FS
open PySem PySem.Spec PySem.Calls PyProof.Rows PySem.W
section
variable {prog:Program} {w:World} {A:Around} {E:Value->Shared->Prop} {s:Shared} {K:Frag} {x C:Addr} {ox od:Obj}
theorem exc_openX {Q:Value->Shared->Prop} {fill expr:Bool} {nv:Value} {odo:Option Obj} (X:K.In s.heap) (I:InstAt s.heap x ox C odo) (hga:findIn K (.ref C) "__getattribute__" = some (some (.builtin "BaseException.__getattribute__"))) (hhk:findIn K (.ref C) "__getattr__" = some none)
  (hm:mroIn K C (.type "BaseException")=some true)
  (h:wpAny (model prog w) A.in1 (Builtin.«object.__getattribute__» ⟨[.ref x,nv],[]⟩) (fun fin s'=>∃ v,fin=.done (.ret v)/\handedIn v=true/\Q v s') (fun _ _=>False) s) :
  wpAny (model prog w) A (getAttrBy (.ref x) nv fill expr) Q E s:=by
 obtain ⟨hh,g,d,t,os⟩:=s
 have L0:=I.type (M:=model prog w)
 have L1:=looks_findIn (M:=model prog w) X hga
 have L2:=looks_findIn (M:=model prog w) X hhk
 unfold getAttrBy
 refine wpAny_holding (wpAny_bind (L0.at (wpAny_bind (L1.at ?_))))
 show wpAny _ _ (getAttrByItsOwn _ _ _ _ _ _) _ _ _
 unfold getAttrByItsOwn hookBefore
 refine wpAny_bind (L2.at (wpAny_bind (wpAny_attempt (wpAny_holding ?_))))
 have ec:callGetattribute (.ref x) nv (.builtin "BaseException.__getattribute__") expr=boundAndCalled (.builtin "BaseException.__getattribute__") (.ref x) nv:=by cases expr <;> rfl
 rw [ec]
 unfold boundAndCalled
 rw [PySem.F.attrBase_ValueError.ga.bind (.ref x)]
 refine wpAny_bind (wpAny_pure ?_)
 refine wpAny_call (codeAny_call_builtin PySem.F.attrBase_ValueError.ga.plain F.entry_bexc_ga (exc_check X I hm ?_))
 refine wpAny_mono h (fun fin s' q=>?_) fun _ _ z=>z.elim
 obtain ⟨v,rfl,hv,q⟩:=q
 exact handed_on hv q
theorem exc_get {name:Str} {v:Value} {Q:Value->Shared->Prop} {expr:Bool} (X:K.In s.heap) (I:InstAt s.heap x ox C (some od)) (xc:XCls K C) (hh:hasDictIn K C=true) (ha:findIn K (.ref C) name=some none) (hl:lookIn name od=some (some v)) (hv:handedIn v=true) (h:Q v { s with toks:=s.toks + 1 }) :
  wpAny (model prog w) A (getAttr (.ref x) name expr) Q E s:=by
 have hf:findObj K C (some od) name=some (.value v):=findObj_own hh ha rfl hl
 obtain ⟨hp,g,d,t,os⟩:=s
 unfold getAttr
 refine wpAny_bind (wpAny_mkText (exc_openX (s:=⟨hp,g,d,t + 1,os⟩) X I xc.ga xc.hk xc.be ?_))
 have L0:=I.type (M:=model prog w)
 have L1:=looks_find (M:=model prog w) X I hf
 unfold Builtin.«object.__getattribute__»
 refine wpAny_bind (wpAny_pure ?_)
 refine wpAny_bind (wpAny_pure ?_)
 refine wpAny_bind (L0.at (wpAny_bind (L1.at ?_)))
 refine wpAny_pure ⟨v,rfl,hv,h⟩
end
end FS
namespace FS
open PySem PySem.Spec PyProof.Rows L2 FX
def XTabK (K:PySem.W.Frag) (xt:CTab):Prop:=∀ r ∈ xt,XCls K r.1/\PySem.W.hasDictIn K r.1=true/\PySem.W.findIn K (.ref r.1) r.2=some none
section
variable {tb:Tb} {X:Cx} {pos:Pos} {e:Expr} {fe:FE} {f:Str}
def fXFld (xt:CTab) (f:Str) (fe:FE):FE:=fun τ=>M.bind (fe τ) fun v=>match v with
 | .exc C ns xs=>if (C,f) ∈ xt then (match (ns.zip xs).lookup f with
   | some x=>M.ret x
   | none=>M.bad) else M.bad
 | _=>M.bad
theorem zip_look {ρ:List Addr} {H:Hp} {x:PV}:∀ {ns:List Str} {xs:List PV} {vs:List V},Reps ρ H xs vs->(ns.zip xs).lookup f=some x->∃ v,(ns.zip vs).lookup f=some v/\Rep ρ H x v
 | [],_,_,_,e=>by simp at e
 | _ :: _,[],_,_,e=>by simp at e
 | n :: ns,y :: ys,_,r,e=>by
  obtain ⟨v,ws,rfl,r1,r2⟩:=r
  rw [List.zip_cons_cons,List.lookup_cons] at e ⊢
  cases hb:f == n with
  | true=>rw [hb] at e;cases e;exact ⟨v,rfl,r1⟩
  | false=>rw [hb] at e;exact zip_look r2 e
theorem e_xfld {xt:CTab} (hxt:XTabK X.K xt) (he:EOk tb X e fe) (hb:attributeBase e f X.env (eval e X.env)=eval e X.env:=by rfl):EOk tb X (.Attribute e f pos) (fXFld xt f fe):=by
 intro pins s σ H Q I ⟨ρ,vh,τ,st,S,p⟩
 refine attr_of hb (thn (he pins s σ H (fun w1 H1=>∃ a C d l v,w1=.ref a/\(C,f) ∈ xt/\H1 a=some (.ext (ExcPhi a C (some d)))/\H1 d=some (.xd l)/\l.lookup f=some v/\Q v H1) I ⟨ρ,vh,τ,st,S,seqEE p fun vh1 ρ1 H1 v1 w1 p1 k1 S1 r1 q1=>?_⟩) fun u s1 ⟨x,H1,I1,rx,a,C,d,l,v,ex,hm,ha,hd,hl,q⟩=>?_)
 ·cases v1 with
  | exc C ns xs =>
   dsimp only at q1
   by_cases hm:(C,f) ∈ xt
   ·rw [if_pos hm] at q1
    cases el:(ns.zip xs).lookup f with
    | none=>rw [el] at q1;exact q1.elim
    | some y =>
     rw [el] at q1
     obtain ⟨a,dO,rfl,h1,h2⟩:=r1
     rcases h2 with ⟨_,rfl,_⟩ | ⟨d,vs,rfl,h3,h4,h5⟩
     ·simp at el
     ·obtain ⟨v,e1,e2⟩:=zip_look h5 el
      exact ⟨a,C,d,_,v,rfl,hm,h1,h3,e1,Post.here q1 S1 e2⟩
   ·rw [if_neg hm] at q1;exact q1.elim
  | _=>exact q1.elim
 ·subst ex
  obtain rfl:u=Value.ref a:=rx
  obtain ⟨⟨oe,fs,g1,g2,g3,g4,_,_⟩,_⟩:=I1.hok a _ ha
  obtain ⟨mA,ns,rel⟩:=I1.hok d _ hd
  obtain ⟨od,ho,hlk⟩:=lookIn_ns ns
  obtain ⟨u',hu,ru⟩:=RelO.some_of (v:=v) (o:=mA f) (by rw [<- hl];exact rel f)
  have J:PySem.W.InstAt s1.heap a oe C (some od):=⟨g1,g2,by unfold PySem.W.notCls;rw [g4],by rw [g3];exact ho⟩
  obtain ⟨x1,x2,x3⟩:=hxt _ hm
  exact exc_get I1.kIn J x1 x2 x3 (by rw [hlk,hu]) (handed_of ru) ⟨v,H1,I1.tok _,ru,q⟩
end
end FS
namespace FS
open PySem PySem.Spec PyProof.Rows L2 FX
section
variable {X:Cx} {pins pins0:List (Addr × Obj)} {σ σ0:St} {H H0:Hp} {s s0:Shared} {a:Addr} {o:Obj} {u v:HO}
end
end FS
namespace FS
open PySem PySem.Spec PyProof.Rows L2 FX
theorem inv_track {X:Cx} {pins:List (Addr × Obj)} {σ:St} {H:Hp} {s:Shared} {t:Addr} {v:HO} (J:Inv X pins σ H s) (f:FpOk X pins H t) (h0:X.s₀.heap.get? t=none) (hv:ObjOk X.prog X.w (upd H t v) s.heap t v):Inv X pins σ (upd H t v) s:=by
 obtain ⟨hn,f1,f2,f3,f4,f5⟩:=f
 refine ⟨J.ok,J.os,J.bare,⟨J.base.keep,J.base.slot,fun b ob e n hb=>?_,J.base.there,fun b xs e=>?_,fun b o' u' e=>?_,fun b ps e=>?_⟩,J.loc,J.cell,?_,fun x c e=>?_,fun p hp=>?_,fun b ob e=>?_,J.len⟩
 ·have:=J.base.free b ob e n hb
  rw [upd_ne (fun z=>by rw [z,h0] at e;cases e)];exact this
 ·have:=J.base.tups b xs e
  rw [upd_ne (ne_of_none this hn)];exact this
 ·have:=J.base.frzs b o' u' e
  rw [upd_ne (ne_of_none this hn)];exact this
 ·obtain ⟨m,q⟩:=J.base.tbls b ps e
  exact ⟨m,by rw [upd_ne (ne_of_none q hn)];exact q⟩
 ·rw [upd_ne (Ne.symm f1)];exact J.free
 ·rw [upd_ne (f4 x c e)];exact J.freeC x c e
 ·obtain ⟨h1,h2,h3⟩:=J.pin p hp
  exact ⟨h1,by rw [upd_ne (f5 p hp)];exact h2,h3⟩
 ·by_cases hb:b=t
  ·subst hb
   rw [upd_same] at e;cases e;exact hv
  ·rw [upd_ne hb] at e
   refine (J.hok b ob e).stay (fun _ _ _ q=>q) (fun c q=>?_) fun c xs q=>?_
   ·rw [upd_ne (ne_of_none q hn)];exact q
   ·rw [upd_ne (ne_of_none q hn)];exact q
end FS
namespace FS
open PySem PySem.Spec PyProof.Rows L2 FX
section
variable {tb:Tb} {X:Cx} {pins:List (Addr × Obj)} {σ:St} {H:Hp} {s:Shared}
end
section
variable {tb:Tb} {X:Cx}
end
end FS
namespace FS
open PySem PySem.Spec PyProof.Rows L2 FX
section
variable {tb:Tb} {X:Cx} {pos p:Pos} {e:Expr} {es:List Expr} {fs:FA}
mutual
def dataOf (h:VH):Nat->PV->Option PyData
 | _,.non=>some .none
 | _,.bl b=>some (.bool b)
 | _,.int i=>some (.int i)
 | _,.str x=>some (.str x)
 | 0,_=>none
 | n + 1,.tup xs=>(datasOf h n xs).map PyData.tuple
 | n + 1,.ref l=>match lsOf h l with
  | some xs=>(datasOf h n xs).map PyData.list
  | none=>none
 | _,_=>none
def datasOf (h:VH):Nat->List PV->Option (List PyData)
 | _,[]=>some []
 | 0,_=>none
 | n + 1,x :: xs=>match dataOf h n x,datasOf h n xs with
  | some d,some ds=>some (d :: ds)
  | _,_=>none
end
end
end FS
namespace FS
open PySem PySem.Spec PyProof.Rows L2 FX
section
variable {tb:Tb} {X:Cx}
def plain:PV->Bool
 | .non=>true
 | .bl _=>true
 | .int _=>true
 | .str _=>true
 | .adr _=>true
 | .ty _=>true
 | _=>false
theorem plain_rep {ρ ρ':List Addr} {H H':Hp} {x:PV} {v:V} (h:plain x=true) (r:Rep ρ H x v):Rep ρ' H' x v:=by
 cases x with
 | tup _=>cases h
 | ref _=>cases h
 | exc _ _ _=>cases h
 | _=>exact r
theorem plain_reps {ρ ρ':List Addr} {H H':Hp}:∀ {xs:List PV} {vs:List V},xs.all plain=true->Reps ρ H xs vs->Reps ρ' H' xs vs
 | [],_,_,r=>r
 | x :: xs,_,h,r=>by
  obtain ⟨v,ws,rfl,r1,r2⟩:=r
  rw [List.all_cons,Bool.and_eq_true] at h
  exact ⟨v,ws,rfl,plain_rep h.1 r1,plain_reps h.2 r2⟩
def blank (n:Nat):Tau:=List.replicate n none
def forgO (h:VH) (d:Nat):Fl->Fl
 | .next τ1 h1=>match h1[(0:Nat)]? with
  | some (.lst ys)=>if ys.all plain=true then .next (blank τ1.length) (h.set d (.lst ys)) else .bad
  | _=>.bad
 | .ret v h1=>match h1[(0:Nat)]? with
  | some (.lst ys)=>if ys.all plain=true/\plain v=true then .ret v (h.set d (.lst ys)) else .bad
  | _=>.bad
 | _=>.bad
def sForg (i:Nat) (f:FSt):FSt:=fun τ h=>match τ[i]? with
 | some (some (.ref d))=>match h[d]? with
  | some (.lst xs)=>if xs.all plain=true then forgO h d (f ((blank τ.length).set i (some (.ref 0))) [.lst xs]) else .bad
  | _=>.bad
 | _=>.bad
theorem forg_keep {ρ ρ1:List Addr} {H H1:Hp} {a:Addr} (ha:a ∈ ρ) (k:Keep [a] ρ1 H H1):Keep ρ ρ H H1 :=
 ⟨⟨k.imm,fun b u c n h=>k.fr b u c (fun z=>n (by simp at z;rw [z];exact ha)) h,fun _ h n=>absurd h n⟩,k.fz⟩
theorem forg_sim {ρ ρ1:List Addr} {H H1:Hp} {vh h1:VH} {d:Nat} {a:Addr} {ys:List PV} (S:Sim tb ρ vh H) (ha:ρ[d]?=some a) (p1:[a]<+:ρ1) (k:Keep [a] ρ1 H H1) (S1:Sim tb ρ1 h1 H1) (e:h1[0]?=some (.lst ys)) (hy:ys.all plain=true) :
  Sim tb ρ (vh.set d (.lst ys)) H1:=by
 have hm:a ∈ ρ:=List.mem_of_getElem? ha
 have kk:=forg_keep hm k
 refine ⟨S1.tab,S.nd,by simp [S.len],fun j b ob e1 e2=>?_⟩
 by_cases hj:j=d
 ·subst hj
  rw [ha] at e1;cases e1
  have hl:j < vh.length:=by rw [<- S.len];exact (List.getElem?_eq_some_iff.mp ha).1
  rw [List.getElem?_set_self hl] at e2
  cases e2
  obtain ⟨vs,z,r⟩:=S1.obj 0 a _ (pre_get p1 rfl) e
  exact ⟨vs,z,plain_reps hy r⟩
 ·rw [List.getElem?_set_ne (Ne.symm hj)] at e2
  have o:=S.obj j b ob e1 e2
  have nb:b ∉ [a]:=fun z=>by
   simp at z;subst z
   obtain ⟨h1,q1⟩:=List.getElem?_eq_some_iff.mp e1
   obtain ⟨h2,q2⟩:=List.getElem?_eq_some_iff.mp ha
   exact hj ((List.getElem_inj S.nd).mp (q1.trans q2.symm))
  obtain ⟨u,hu,cu⟩:=o.some
  exact o.mono List.prefix_rfl kk (by rw [k.fr b u cu nb hu,hu])
theorem blank_rel {hv:Option Value} {ρ ρ':List Addr} {H H':Hp} {τ:Tau} {σ:St} (h:StRel hv ρ H τ σ) (hd:Hd hv H'):StRel hv ρ' H' (blank τ.length) σ :=
 ⟨hd,by rw [blank,List.length_replicate];exact h.len,fun i x e=>by
  unfold blank at e
  rw [List.getElem?_replicate] at e
  split at e <;> cases e⟩
theorem b_forg {sts:List Stmt} {f:FSt} {i:Nat} (hb:BOk tb X sts f):BOk tb X sts (sForg i f):=by
 intro pins s σ H D I ⟨ρ,vh,τ,st,S,p⟩
 refine hb pins s σ H D I ?_
 unfold sForg at p
 cases e0:τ[i]? with
 | none=>rw [e0] at p;exact p.elim
 | some o =>
  rw [e0] at p
  cases o with
  | none=>exact p.elim
  | some v =>
   cases v with
   | ref d =>
    dsimp only at p
    cases e1:vh[d]? with
    | none=>rw [e1] at p;exact p.elim
    | some ob =>
     rw [e1] at p
     cases ob with
     | lst xs =>
      dsimp only at p
      by_cases hx:xs.all plain=true
      ·rw [if_pos hx] at p
       obtain ⟨w,ew,rw'⟩:=st.get i _ e0
       obtain ⟨a,ha,rfl⟩:=rw'
       have hm:a ∈ ρ:=List.mem_of_getElem? ha
       obtain ⟨vs,hv,rs⟩:=S.obj d a _ ha e1
       have S0:Sim tb [a] [.lst xs] H:=by
        refine ⟨S.tab,by simp,rfl,fun j b o' h1 h2=>?_⟩
        cases j with
        | zero=>cases h1;cases h2;exact ⟨vs,hv,plain_reps hx rs⟩
        | succ j=>simp at h1
       have st0:StRel X.A.handled [a] H ((blank τ.length).set i (some (.ref 0))) σ:=by
        refine ⟨st.hd,by rw [List.length_set,blank,List.length_replicate];exact st.len,fun j x e=>?_⟩
        by_cases hj:j=i
        ·subst hj
         rw [List.getElem?_set_self (by rw [blank,List.length_replicate];exact (List.getElem?_eq_some_iff.mp e0).1)] at e
         cases e
         exact ⟨_,ew,a,rfl,rfl⟩
        ·rw [List.getElem?_set_ne (Ne.symm hj)] at e
         unfold blank at e
         rw [List.getElem?_replicate] at e
         split at e <;> cases e
       refine ⟨[a],[.lst xs],_,st0,S0,?_⟩
       cases ef:f ((blank τ.length).set i (some (.ref 0))) [.lst xs] with
       | next τ1 h1 =>
        rw [ef] at p
        unfold forgO at p
        dsimp only at p
        intro ρ1 H1 σ1 p1 k1 S1 st1
        cases q0:h1[0]? with
        | none=>rw [q0] at p;exact p.elim
        | some o0 =>
         rw [q0] at p
         cases o0 with
         | lst ys =>
          dsimp only at p
          by_cases hy:ys.all plain=true
          ·rw [if_pos hy] at p
           exact p ρ H1 σ1 List.prefix_rfl (forg_keep hm k1) (forg_sim S ha p1 k1 S1 q0 hy) (blank_rel st1 st1.hd)
          ·rw [if_neg hy] at p;exact p.elim
         | _=>exact p.elim
       | ret v h1 =>
        rw [ef] at p
        unfold forgO at p
        dsimp only at p
        intro ρ1 H1 w1 p1 k1 S1 r1
        cases q0:h1[0]? with
        | none=>rw [q0] at p;exact p.elim
        | some o0 =>
         rw [q0] at p
         cases o0 with
         | lst ys =>
          dsimp only at p
          by_cases hy:ys.all plain=true/\plain v=true
          ·rw [if_pos hy] at p
           exact p ρ H1 w1 List.prefix_rfl (forg_keep hm k1) (forg_sim S ha p1 k1 S1 q0 hy.1) (plain_rep hy.2 r1)
          ·rw [if_neg hy] at p;exact p.elim
         | _=>exact p.elim
       | brk _ _=>rw [ef] at p;exact p.elim
       | cont _ _=>rw [ef] at p;exact p.elim
       | exc _ _=>rw [ef] at p;exact p.elim
       | bad=>rw [ef] at p;exact p.elim
      ·rw [if_neg hx] at p;exact p.elim
     | _=>exact p.elim
   | _=>exact p.elim
end
end FS
namespace FS
open PySem PySem.Spec PyProof.Rows L2 FX
section
variable {tb:Tb} {X:Cx} {pos:Pos} {a o e:Expr} {es:List Expr} {fa fo:FE} {fs:FA} {m:Str}
def gNeg:G1:=fun x=>match x with
 | .int i=>M.ret (.int (-i))
 | _=>M.bad
theorem e_neg (ha:EOk tb X a fa):EOk tb X (.UnaryOp .USub a pos) (fUn gNeg fa) :=
 PE.mono (pe_un un_neg ha) fun σ H Q ⟨ρ,vh,τ,st,S,p⟩=>⟨ρ,vh,τ,st,S,seqEE p fun vh1 ρ1 H1 v1 w1 p1 k1 S1 r1 q1=>by
  cases v1 with
  | int i=>cases r1;exact ⟨i,rfl,Post.here q1 S1 rfl⟩
  | _=>exact q1.elim⟩
def MethN (P:Program) (w:World) (K:PySem.W.Frag) (mg:Str->Option Value) (base:Heap) (tb:Tb) (k:Nat) (C:Addr) (m:Str) (f:Addr) (ps:List Str) (F:FF):Prop :=
 ∃ fd,FnF P w K mg base tb k f fd ps F/\Binds K fd ps [.none]/\Cls K C/\Meth K C m f
end
end FS
namespace FS
open PySem PySem.Spec PyProof.Rows L2 FX
section
variable {P:Program} {w:World} {K:PySem.W.Frag} {mg mb:Str->Option Value} {k:Nat} {fa a:Addr} {fd:FuncData} {x:Str} {F:FF} {s₁:Shared} {vs:List Value} {ns:List Int} {tb:Tb} {tabs:List Addr}
def hp0 (a:Addr) (vs:List Value) (ns:List Int) (tabs:List Addr):Hp:=fun b=>if b=a then some (.frz { cls:=.type "list",data:=.seq vs.toArray } (.lst (ns.map V.int))) else if b ∈ tabs then some (.tbl #[]) else none
theorem law_callF (KX:K.In s₁.heap) (hns:s₁.heap.Ns mainGlobals mg) (hb:s₁.heap.Ns builtinsNs mb) (hbb:∀ x:Str,x ≠ "__name__"->mb x=bootBuiltins x) (hlim:s₁.heap.NoLimit) (hg:s₁.gens=#[])
  (hbm:∃ bm ob,mg "__builtins__" = some (.ref bm)/\bm ≠ builtinsNs/\s₁.heap.get? bm=some ob/\ob.cls=.type "module"/\ob.dict=some builtinsNs/\ob.data=.plain)
  (ha:s₁.heap.get? a=some { cls:=.type "list",data:=.seq vs.toArray }) (hi:IntsAre vs ns) (hl:ns.length<=sizeLine) (hr:Room k callerA)
  (hT:∀ Q ∈ tabs,s₁.heap.get? Q=some (PySem.W.tabObj #[])/\isCodeTable s₁.heap Q/\K.lookup Q=none) (htb:∀ c Q q,(c,Q,q) ∈ tb->Q ∈ tabs) (hnl:∀ o,K.lookup a=some o->o.cls ≠ .type "list")
  (Fn:∀ base:Heap,K.In base->base.Ns mainGlobals mg->(∀ Q ∈ tabs,base.BuiltinsAt mg Q)->FnF P w K mg base tb k fa fd [x] F) (hbind:∀ (s:Shared) (u:Value),BindsTo s fd ⟨[u],[]⟩ [(x,u)])
  (hF:∃ vh',F [.ref 0] [.scr ns]=.ok (.bl true) vh') :
  codeAny (model P w) callerA (.call (.ref fa) ⟨[.ref a],[]⟩) (fun r s'=>r=.ok (.ret (.bool true))/\OldK s₁.heap s'.heap/\s'.os=s₁.os/\AllBare s'.gens) s₁:=by
 have rv:=vals_ints hi
 have hat:a ∉ tabs:=fun z=>by
  have e:=(hT a z).1
  rw [ha] at e;cases e
 have hka:K.lookup a=none:=by
  cases e:K.lookup a with
  | none=>rfl
  | some o =>
   have q:=KX a o e
   rw [ha] at q;cases q
   exact absurd rfl (hnl _ e)
 generalize hH:hp0 a vs ns tabs=H
 have Ha:H a=some (.frz { cls:=.type "list",data:=.seq vs.toArray } (.lst (ns.map V.int))):=by rw [<- hH];exact if_pos rfl
 have Ht:∀ Q ∈ tabs,H Q=some (.tbl #[]):=fun Q hQ=>by
  rw [<- hH];unfold hp0
  have z:¬ Q=a:=fun z=>hat (by rw [<- z];exact hQ)
  rw [if_neg z,if_pos hQ]
 have Hn:∀ b,b ≠ a->b ∉ tabs->H b=none:=fun b h1 h2=>by
  rw [<- hH];unfold hp0
  rw [if_neg h1,if_neg h2]
 have cases3:∀ b,b=a\/b ∈ tabs\/(b ≠ a/\b ∉ tabs/\H b=none):=fun b=>by
  by_cases h1:b=a
  ·exact .inl h1
  ·by_cases h2:b ∈ tabs
   ·exact .inr (.inl h2)
   ·exact .inr (.inr ⟨h1,h2,Hn b h1 h2⟩)
 have hok:HOk P w H s₁.heap:=fun b u z=>by
  rcases cases3 b with rfl | h | ⟨_,_,h⟩
  ·rw [Ha] at z;cases z
   exact ⟨ha,by rw [List.length_map];exact hl,vs,_,rv,ha⟩
  ·rw [Ht b h] at z;cases z
   exact (hT b h).1
  ·rw [h] at z;cases z
 have base_of:∀ {b:Addr} {o:Obj},s₁.heap.get? b=some o->H b=none->(hidT s₁.heap H).get? b=some o:=fun e n=>hidT_get e n
 have noD:∀ {b:Addr} {o:Obj} {es:Array DictEntry} {ep:Nat},s₁.heap.get? b=some o->o.data=.dict es ep->H b=none:=fun {b o es ep} e d=>by
  rcases cases3 b with rfl | h | ⟨_,_,h⟩
  ·rw [ha] at e;cases e;cases d
  ·rw [(hT b h).1] at e;cases e;cases d
  ·exact h
 have nsK:∀ {b:Addr} {m:Str->Option Value},s₁.heap.Ns b m->(hidT s₁.heap H).Ns b m:=fun {b m} ⟨o,es,ep,e,d,r⟩=>⟨o,es,ep,base_of e (noD e d),d,r⟩
 have hKb:K.In (hidT s₁.heap H):=fun b o e=>base_of (KX b o e) (by
  rcases cases3 b with rfl | h | ⟨_,_,h⟩
  ·rw [hka] at e;cases e
  ·rw [(hT b h).2.2] at e;cases e
  ·exact h)
 have hM:Mod K mg (hidT s₁.heap H):=⟨hKb,nsK hns,⟨mb,nsK hb,hbb⟩,let ⟨mc,h1,h2⟩:=hlim;⟨mc,nsK h1,h2⟩⟩
 have e0:Env0 P w K mg (hidT s₁.heap H) callerA [] s₁ H:=⟨rfl,hM,fun b o e=>of_hidT e,Nat.le_of_eq (hidT_size _ _),trivial,fun b hb=>absurd (show b ∈ ([]:List Addr) from hb) (by simp),hok,.of_eq hg⟩
 have hB:∀ Q ∈ tabs,(hidT s₁.heap H).BuiltinsAt mg Q:=fun Q hQ=>by
  obtain ⟨bm,ob,b1,b2,b3,b4,b5,b6⟩:=hbm
  have hbG:bm ≠ mainGlobals:=fun q=>by
   obtain ⟨o,es,ep,e,hd,_⟩:=hns
   rw [<- q,b3] at e;cases e;rw [b6] at hd;cases hd
  have hbP:bm ≠ Q:=fun q=>by
   have e:=(hT Q hQ).1
   rw [<- q,b3] at e;cases e;cases b4
  refine ⟨bm,ob,b1,b2,hbG,hbP,base_of b3 ?_,b4,b5,b6⟩
  rcases cases3 bm with h | h | ⟨_,_,h⟩
  ·rw [h,ha] at b3;cases b3;cases b6
  ·have e:=(hT bm h).1
   rw [b3] at e;cases e;cases b4
  ·exact h
 obtain ⟨vh',hF⟩:=hF
 have S0:Sim tb [a] [.scr ns] H:=by
  refine ⟨fun c Q q hm=>⟨#[],Ht Q (htb c Q q hm),trivial,fun pos cv e=>by cases e⟩,by simp,rfl,fun i b o h1 h2=>?_⟩
  cases i with
  | zero =>
   cases h1;cases h2
   exact ⟨_,Ha⟩
  | succ i=>simp at h1
 refine codeAny_mono ((Fn _ hKb (nsK hns) hB).run callerA [] s₁ H ⟨[.ref a],[]⟩ [.ref a] [.ref a] (fun v _=>v=.bl true) (fun _ _ _=>False) hr e0 (hbind s₁ (.ref a)) (.cons rfl .nil) ⟨[a],[.scr ns],[.ref 0],rfl,⟨.ref a,[],rfl,⟨a,rfl,rfl⟩,rfl⟩,S0,?_⟩) fun r s' h=>?_
 ·rw [hF]
  exact fun ρ' H' w p k S r=>r
 ·cases r with
  | error e =>
   obtain ⟨_,_,_,_,_,_,_,_,_,_,_,_,_,_,_,_,_,_,_,z⟩:=h
   exact z.elim
  | ok fl =>
   cases fl with
   | next=>exact False.elim h
   | brk=>exact False.elim h
   | cont=>exact False.elim h
   | ret u =>
    obtain ⟨v,H',os,bare,un,hok',r',q⟩:=h
    have q':v=.bl true:=q
    subst q'
    obtain rfl:u=Value.bool true:=r'
    have keepN:∀ b o,s₁.heap.get? b=some o->H b=none->s'.heap.get? b=some o:=fun b o e q=>un.keep b o e q (by intro z;exact absurd (show b ∈ ([]:List Addr) from z) (by simp)) (by simp)
    refine ⟨rfl,⟨fun b o e=>?_,fun b o e=>?_⟩,os,bare⟩
    ·rcases cases3 b with rfl | h | ⟨_,_,h⟩
     ·have z2:=un.frzs b _ _ Ha
      obtain ⟨e1,_⟩:=hok b _ Ha
      obtain ⟨e2,_⟩:=hok' b _ z2
      rw [e] at e1;cases e1
      exact .inl e2
     ·obtain ⟨more,hm⟩:=un.tbls b _ (Ht b h)
      have e1:=(hT b h).1
      rw [e] at e1;cases e1
      exact .inr (.inl ⟨(hT b h).2.1,rfl,#[],more,rfl,hok' b _ hm⟩)
     ·exact .inl (keepN b o e h)
    ·exact un.there b o e (by simp)
end
section
def DefC (K:PySem.W.Frag) (mg:Str->Option Value) (x:Str) (st:Stmt) (f c:Addr) (ps:List Str):Prop :=
 ∃ (oc:Value) (od:Option Addr) (kV doc pm:Value) (an:Option Addr) (ct:Value) (osl:Array (Option Value)),
  K.lookup f=some ⟨oc,od,.func (PySem.W.fnOf x x (defArgs st) (defBody st) (defScope st) .none kV doc pm an (.ref c) ct),osl⟩/\PySem.W.codeIn K (.ref c) x=true/\Binds K (PySem.W.fnOf x x (defArgs st) (defBody st) (defScope st) .none kV doc pm an (.ref c) ct) ps []/\mg x=some (.ref f)
end
section
def listO (o:Obj):Bool:=match o.cls with
 | .type n=>n == "list"
 | _=>false
def noLists (K:PySem.W.Frag):Bool:=K.all fun e=>!listO e.2
theorem noLists_is:∀ {K:PySem.W.Frag},noLists K=true->∀ {a:Addr} {o:Obj},K.lookup a=some o->o.cls ≠ .type "list"
 | [],_,_,_,e=>by cases e
 | (b,o') :: K,h,a,o,e=>fun z=>by
  have h':(!listO o' && noLists K)=true:=h
  rw [Bool.and_eq_true] at h'
  rw [List.lookup_cons] at e
  cases hb:a == b with
  | true =>
   rw [hb] at e;cases e
   have h1:=h'.1
   unfold listO at h1
   rw [z] at h1
   simp at h1
  | false=>rw [hb] at e;exact noLists_is h'.2 e z
theorem walk_F {l:PySem.W.OpenLaw} {n k:Nat} {q:Program} {loose:List Str} {XP:(Str->Option Value)->Heap->Prop} {YP:World->Heap->Prop} {d:DefRec} {K:Params->PySem.W.Frag} {x:Str} {tb:Tb} {tabs:List Addr} {F:FF}
  (hn:l.most=some n) (hn2:n<=sizeLine) (hdf:d.params.defaults=[]) (hr:Room k callerA)
  (hY:∀ (w:World) (h:Heap),YP w h->(K w.params).In h) (hYt:∀ (w:World) (h:Heap),YP w h->∀ Q ∈ tabs,h.get? Q=some (PySem.W.tabObj #[]))
  (hcode:∀ Q ∈ tabs,∃ c,∀ p,PySem.W.codeHdIn (K p) c Q=true) (hlk:∀ p,∀ Q ∈ tabs,(K p).lookup Q=none) (hnl:∀ p,noLists (K p)=true) (htb:∀ c Q q,(c,Q,q) ∈ tb->Q ∈ tabs)
  (Fn:∀ (w:World) (mg:Str->Option Value) (fa:Addr) (h:Heap),(K w.params).In h->h.Ns mainGlobals mg->mg d.name=some (.ref fa) ->
   ∃ fd:FuncData,(∀ (s:Shared) (u:Value),BindsTo s fd ⟨[u],[]⟩ [(x,u)]) /\
    ∀ base:Heap,(K w.params).In base->base.Ns mainGlobals mg->(∀ Q ∈ tabs,base.BuiltinsAt mg Q)->FnF l.prog w (K w.params) mg base tb k fa fd [x] F)
  (hF:∀ ns:List Int,ns.length<=n->∃ vh',F [.ref 0] [.scr ns]=.ok (.bl true) vh') :
  PySem.W.WalkO q loose XP YP l.row.toRowW d [] (fun f vs=>PySem.call f vs):=by
 refine Att.attach_call hn hdf fun w s₀ s₁ mg mb fa o pm cd doc a vs ns G Y ho hd hcd hmg hobj hints hlen hg=>?_
 have KX:=hY w _ Y
 obtain ⟨fd,hb,hf⟩:=Fn w mg fa _ KX G.T.g hmg
 refine law_callF KX G.T.g G.T.b G.T.builtins G.T.nolimit hg G.T.bmain hobj hints (Nat.le_trans hlen hn2) hr (fun Q hQ=>⟨hYt w _ Y Q hQ,?_,hlk _ Q hQ⟩) htb (fun o e=>noLists_is (hnl _) e) hf hb (hF ns hlen)
 obtain ⟨c,hc⟩:=hcode Q hQ
 obtain ⟨o,vs,file,tf,flags,tg,inF,text,tt,e1,e2,e3,e4,_⟩:=PySem.W.codeHd_of_K KX (hc w.params)
 exact ⟨c,o,vs,e1,e2,e3,e4⟩
end
end FS
namespace FS
open PySem PySem.Spec PyProof.Rows L2 FX
section
variable {tb:Tb} {P:Program} {w:World} {K:PySem.W.Frag} {mg:Str->Option Value} {base:Heap}
def DefM (K:PySem.W.Frag) (C:Addr) (m q:Str) (st:Stmt) (f:Addr) (ps:List Str):Prop:=∃ fd,Fun K m q st f fd/\Binds K fd ps []/\Cls K C/\Meth K C m f
theorem DefM.fn {C:Addr} {m q:Str} {st:Stmt} {f:Addr} {ps N:List Str} {k:Nat} {g:FSt} (D:DefM K C m q st f ps) (S:FnScope N ps (defScope st))
  (hbody:∀ (cdv:Value) (A:Around) (outer:List Env) (s:Shared) (H:Hp) (E:XK),Room k (A.deeper (envOfC q (defScope st) s.heap.objs.size f cdv))->BOk tb (cxOf (CXF P w base) P w K mg base N q (defScope st) f cdv A outer s H E) (defBody st) g) :
  MethD P w K mg base tb (k + 1) C m f ps (fun xs=>runB g (startT N xs)):=by
 obtain ⟨fd,F,b,c,m⟩:=D
 obtain ⟨oc,od,kV,doc,pm,an,cdv,ct,osl,rfl,lk,hcd⟩:=F.ex
 exact ⟨_,fn_F lk hcd S (fun A outer s H E hr=>hbody cdv A outer s H E hr) (fun _ _ _=>rfl),b,c,m⟩
def DefMK (K:PySem.W.Frag) (C:Addr) (m q:Str) (st:Stmt) (f:Addr) (ps ks:List Str):Prop:=∃ fd,Fun K m q st f fd/\KwD K fd ps ks/\Binds K fd ps [.none]/\Cls K C/\Meth K C m f
theorem DefMK.fn {C:Addr} {m q:Str} {st:Stmt} {f:Addr} {ps ks N:List Str} {k:Nat} {g:FSt} (D:DefMK K C m q st f ps ks) (S:FnScope N ps (defScope st))
  (hbody:∀ (cdv:Value) (A:Around) (outer:List Env) (s:Shared) (H:Hp) (E:XK),Room k (A.deeper (envOfC q (defScope st) s.heap.objs.size f cdv))->BOk tb (cxOf (CXF P w base) P w K mg base N q (defScope st) f cdv A outer s H E) (defBody st) g) :
  MethK P w K mg base tb (k + 1) C m f ps ks (fun xs=>runB g (startT N xs))/\MethN P w K mg base tb (k + 1) C m f ps (fun xs=>runB g (startT N xs)):=by
 obtain ⟨fd,F,b,b2,c,m⟩:=D
 obtain ⟨oc,od,kV,doc,pm,an,cdv,ct,osl,rfl,lk,hcd⟩:=F.ex
 have h:=fn_F (tb:=tb) (P:=P) (w:=w) (mg:=mg) (base:=base) lk hcd S (fun A outer s H E hr=>hbody cdv A outer s H E hr) (F:=fun xs=>runB g (startT N xs)) (fun _ _ _=>rfl)
 exact ⟨⟨_,h,b,c,m⟩,_,h,b2,c,m⟩
def DefI (K:PySem.W.Frag) (mg:Str->Option Value) (x:Str) (C:Addr) (q:Str) (st:Stmt) (f:Addr) (ps:List Str):Prop:=∃ fd,Fun K "__init__" q st f fd/\Binds K fd ps []/\Mk K C f/\mg x=some (.ref C)
theorem DefI.fn {C:Addr} {x q:Str} {st:Stmt} {f:Addr} {ps N:List Str} {k:Nat} {g:FSt} (D:DefI K mg x C q st f ps) (S:FnScope N ps (defScope st))
  (hbody:∀ (cdv:Value) (A:Around) (outer:List Env) (s:Shared) (H:Hp) (E:XK),Room k (A.deeper (envOfC q (defScope st) s.heap.objs.size f cdv))->BOk tb (cxOf (CXF P w base) P w K mg base N q (defScope st) f cdv A outer s H E) (defBody st) g) :
  MakeD P w K mg base tb (k + 1) x C f ps (fun xs=>runB g (startT N xs)):=by
 obtain ⟨fd,F,b,c,m⟩:=D
 obtain ⟨oc,od,kV,doc,pm,an,cdv,ct,osl,rfl,lk,hcd⟩:=F.ex
 exact ⟨_,fn_F lk hcd S (fun A outer s H E hr=>hbody cdv A outer s H E hr) (fun _ _ _=>rfl),b,c,m⟩
def DefCK (K:PySem.W.Frag) (mg:Str->Option Value) (x:Str) (st:Stmt) (f c:Addr) (ps:List Str):Prop:=DefC K mg x st f c ps/\PySem.W.keepIn K (.ref f)=true
theorem DefCK.fn {x:Str} {st:Stmt} {f c:Addr} {ps N:List Str} {k:Nat} {g:FSt} (D:DefCK K mg x st f c ps) (S:FnScope N ps (defScope st))
  (hbody:∀ (A:Around) (outer:List Env) (s:Shared) (H:Hp) (E:XK),Room k (A.deeper (envOfC x (defScope st) s.heap.objs.size f (.ref c)))->BOk tb (cxOf (CXF P w base) P w K mg base N x (defScope st) f (.ref c) A outer s H E) (defBody st) g) :
  FnD P w K mg base tb (k + 1) x f ps (fun xs=>runB g (startT N xs)):=by
 obtain ⟨⟨oc,od,kV,doc,pm,an,ct,osl,lk,hcd,b,m⟩,kp⟩:=D
 exact ⟨_,fn_F lk hcd S (fun A outer s H E hr=>hbody A outer s H E hr) (fun _ _ _=>rfl),b,m,kp⟩
end
end FS
namespace FS
theorem LamAt.nox {tb:Tb} {X:L2.Cx} {c P:PySem.Addr} {q:PySem.Str} (h:LamAt X tb c P q):LamAt X.nox tb c P q:=⟨h.code,h.mem,h.one,h.head,h.ng,h.blt⟩
end FS
namespace FS
open PySem PySem.Spec PyProof.Rows L2 FX
mutual
def inN (n:Nat):PV->Bool
 | .ref i=>decide (i < n)
 | .tup xs=>insN n xs
 | .exc _ _ xs=>insN n xs
 | .non=>true
 | .bl _=>true
 | .int _=>true
 | .str _=>true
 | .adr _=>true
 | .ty _=>true
def insN (n:Nat):List PV->Bool
 | []=>true
 | x :: xs=>inN n x && insN n xs
end
def prN (n:Nat):List (PV × PV)->Bool
 | []=>true
 | p :: ps=>inN n p.2 && prN n ps
def fdN (n:Nat):List (Str × PV)->Bool
 | []=>true
 | p :: ps=>inN n p.2 && fdN n ps
def voN (n:Nat):VO->Bool
 | .lst xs=>insN n xs
 | .scr _=>true
 | .dct kvs=>prN n kvs
 | .dtp kvs=>prN n kvs
 | .dfz kvs=>prN n kvs
 | .st _=>true
 | .ins _ fs=>fdN n fs
def vosN (n:Nat):List VO->Bool
 | []=>true
 | o :: os=>voN n o && vosN n os
def tauN (n:Nat):Tau->Tau
 | []=>[]
 | none :: τ=>none :: tauN n τ
 | some v :: τ=>(if inN n v=true then some v else none) :: tauN n τ
def dropF (n:Nat):Fl->Fl
 | .next τ h=>if vosN n (h.take n)=true then .next (tauN n τ) (h.take n) else .next τ h
 | f=>f
def sClean (f:FSt):FSt:=fun τ h=>dropF h.length (f τ h)
def dropO (n:Nat):Out PV->Out PV
 | .ok v h=>if inN n v=true/\vosN n (h.take n)=true then .ok v (h.take n) else .ok v h
 | o=>o
def fClean (f:FE):FE:=fun τ h=>dropO h.length (f τ h)
section
variable {tb:Tb} {X:Cx} {ρ:List Addr} {H:Hp} {n:Nat}
theorem take_at {i:Nat} {a:Addr} (e:ρ[i]?=some a) (hi:i < n):(ρ.take n)[i]?=some a:=by
 rw [List.getElem?_take,if_pos hi];exact e
mutual
theorem Rep.trim:∀ {x:PV} {v:V},inN n x=true->Rep ρ H x v->Rep (ρ.take n) H x v
 | .non,_,_,h=>h
 | .bl _,_,_,h=>h
 | .int _,_,_,h=>h
 | .str _,_,_,h=>h
 | .adr _,_,_,h=>h
 | .ty _,_,_,h=>h
 | .ref i,_,q,h=>by
  obtain ⟨a,e,z⟩:=h
  exact ⟨a,take_at e (by simpa [inN] using q),z⟩
 | .tup xs,_,q,h=>by
  obtain ⟨a,vs,e,z,r⟩:=h
  exact ⟨a,vs,e,z,Reps.trim (by simpa [inN] using q) r⟩
 | .exc C ns xs,_,q,h=>by
  obtain ⟨e,dO,z1,z2,z3⟩:=h
  refine ⟨e,dO,z1,z2,?_⟩
  rcases z3 with z3 | ⟨d,vs,q1,q2,q3,q4⟩
  ·exact .inl z3
  ·exact .inr ⟨d,vs,q1,q2,q3,Reps.trim (by simpa [inN] using q) q4⟩
theorem Reps.trim:∀ {xs:List PV} {vs:List V},insN n xs=true->Reps ρ H xs vs->Reps (ρ.take n) H xs vs
 | [],_,_,h=>h
 | x :: xs,_,q,h=>by
  obtain ⟨v,ws,e,r,t⟩:=h
  simp only [insN,Bool.and_eq_true] at q
  exact ⟨v,ws,e,Rep.trim q.1 r,Reps.trim q.2 t⟩
end
theorem GRep.trim {κ:Type} {kf:PV->Option κ}:∀ {xs:List (PV × PV)} {vs:List (κ × V)},prN n xs=true->GRep kf ρ H xs vs->GRep kf (ρ.take n) H xs vs
 | [],_,_,h=>h
 | _ :: _,_,q,h=>by
  obtain ⟨v,ws,l,e,r,t,z⟩:=h
  simp only [prN,Bool.and_eq_true] at q
  exact ⟨v,ws,l,e,r,Rep.trim q.1 t,GRep.trim q.2 z⟩
theorem FRep.trim:∀ {xs:List (Str × PV)} {vs:List (Str × V)},fdN n xs=true->FRep ρ H xs vs->FRep (ρ.take n) H xs vs
 | [],_,_,h=>h
 | _ :: _,_,q,h=>by
  obtain ⟨v,l,e,t,z⟩:=h
  simp only [fdN,Bool.and_eq_true] at q
  exact ⟨v,l,e,Rep.trim q.1 t,FRep.trim q.2 z⟩
theorem ORel.trim {a:Addr} {o:VO} (q:voN n o=true) (h:ORel ρ H a o):ORel (ρ.take n) H a o:=by
 cases o with
 | lst xs=>obtain ⟨vs,z,r⟩:=h;exact ⟨vs,z,r.trim q⟩
 | scr ns=>exact h
 | dct kvs=>obtain ⟨l,z,r⟩:=h;exact ⟨l,z,r.trim q⟩
 | dtp kvs=>obtain ⟨l,z,r⟩:=h;exact ⟨l,z,r.trim q⟩
 | st xs=>exact h
 | dfz kvs=>obtain ⟨o,l,z,r⟩:=h;exact ⟨o,l,z,r.trim q⟩
 | ins C fs=>obtain ⟨dx,l,z,r⟩:=h;exact ⟨dx,l,z,r.trim q⟩
theorem vosN_at:∀ {os:List VO} {i:Nat} {o:VO},vosN n os=true->os[i]?=some o->voN n o=true
 | [],_,_,_,e=>by simp at e
 | _ :: _,0,_,q,e=>by simp only [vosN,Bool.and_eq_true] at q;simp at e;rw [<- e];exact q.1
 | _ :: _,i + 1,_,q,e=>by simp only [vosN,Bool.and_eq_true] at q;exact vosN_at q.2 (by simpa using e)
theorem Sim.trim {vh:VH} (q:vosN n (vh.take n)=true) (S:Sim tb ρ vh H):Sim tb (ρ.take n) (vh.take n) H:=by
 refine ⟨S.tab,S.nd.sublist (List.take_sublist _ _),by simp [S.len],fun i a o e1 e2=>?_⟩
 have o':=vosN_at q e2
 have hi:i < n:=by
  have:=(List.getElem?_eq_some_iff.mp e1).1
  rw [List.length_take] at this;omega
 rw [List.getElem?_take,if_pos hi] at e1 e2
 exact (S.obj i a o e1 e2).trim o'
theorem tauN_len:∀ τ:Tau,(tauN n τ).length=τ.length
 | []=>rfl
 | none :: τ=>by simp [tauN,tauN_len τ]
 | some v :: τ=>by simp [tauN,tauN_len τ]
theorem tauN_at:∀ {τ:Tau} {i:Nat} {x:PV},(tauN n τ)[i]?=some (some x)->τ[i]?=some (some x)/\inN n x=true
 | [],_,_,e=>by simp [tauN] at e
 | none :: τ,0,_,e=>by simp [tauN] at e
 | none :: τ,i + 1,_,e=>by
  obtain ⟨h1,h2⟩:=tauN_at (τ:=τ) (i:=i) (by simpa [tauN] using e)
  exact ⟨by simpa using h1,h2⟩
 | some v :: τ,0,x,e=>by
  simp only [tauN,List.getElem?_cons_zero,Option.some.injEq] at e
  split at e
  ·rename_i hv;cases e;exact ⟨rfl,hv⟩
  ·cases e
 | some v :: τ,i + 1,_,e=>by
  obtain ⟨h1,h2⟩:=tauN_at (τ:=τ) (i:=i) (by simpa [tauN] using e)
  exact ⟨by simpa using h1,h2⟩
theorem StRel.trim {hv:Option Value} {τ:Tau} {σ:St} (h:StRel hv ρ H τ σ):StRel hv (ρ.take n) H (tauN n τ) σ :=
 ⟨h.hd,by rw [tauN_len];exact h.len,fun i x e=>by
  obtain ⟨e1,q⟩:=tauN_at e
  obtain ⟨v,e2,r⟩:=h.get i x e1
  exact ⟨v,e2,r.trim q⟩⟩
theorem pre_cut {ρ':List Addr} (p:ρ<+:ρ') (hn:ρ.length=n):ρ<+:ρ'.take n:=by
 obtain ⟨t,rfl⟩:=p
 subst hn
 rw [List.take_left]
 exact List.prefix_rfl
theorem Keep.trim {ρ':List Addr} {H':Hp} (k:Keep ρ ρ' H H'):Keep ρ (ρ'.take n) H H':=⟨⟨k.imm,k.fr,fun p hp=>k.nw p (List.mem_of_mem_take hp)⟩,k.fz⟩
theorem b_clean {sts:List Stmt} {f:FSt} (hb:BOk tb X sts f):BOk tb X sts (sClean f):=by
 intro pins s σ H D I ⟨ρ,vh,τ,st,S,p⟩
 refine hb pins s σ H D I ⟨ρ,vh,τ,st,S,?_⟩
 unfold sClean at p
 cases e:f τ vh with
 | next τ1 h1 =>
  rw [e] at p
  unfold dropF at p
  dsimp only at p
  by_cases q:vosN vh.length (h1.take vh.length)=true
  ·rw [if_pos q] at p
   exact fun ρ1 H1 σ1 p1 k1 S1 st1=>p (ρ1.take vh.length) H1 σ1 (pre_cut p1 S.len) k1.trim (S1.trim q) st1.trim
  ·rw [if_neg q] at p;exact p
 | brk _ _=>rw [e] at p;exact p
 | cont _ _=>rw [e] at p;exact p
 | ret _ _=>rw [e] at p;exact p
 | exc _ _=>rw [e] at p;exact p
 | bad=>rw [e] at p;exact p
theorem s_clean {st:Stmt} {f:FSt} (hb:SOk tb X st f):SOk tb X st (sClean f):=by
 intro pins s σ H D I ⟨ρ,vh,τ,st,S,p⟩
 refine hb pins s σ H D I ⟨ρ,vh,τ,st,S,?_⟩
 unfold sClean at p
 cases e:f τ vh with
 | next τ1 h1 =>
  rw [e] at p
  unfold dropF at p
  dsimp only at p
  by_cases q:vosN vh.length (h1.take vh.length)=true
  ·rw [if_pos q] at p
   exact fun ρ1 H1 σ1 p1 k1 S1 st1=>p (ρ1.take vh.length) H1 σ1 (pre_cut p1 S.len) k1.trim (S1.trim q) st1.trim
  ·rw [if_neg q] at p;exact p
 | brk _ _=>rw [e] at p;exact p
 | cont _ _=>rw [e] at p;exact p
 | ret _ _=>rw [e] at p;exact p
 | exc _ _=>rw [e] at p;exact p
 | bad=>rw [e] at p;exact p
theorem e_clean {e:Expr} {f:FE} (he:EOk tb X e f):EOk tb X e (fClean f):=by
 intro pins s σ H Q I ⟨ρ,vh,τ,st,S,p⟩
 refine he pins s σ H Q I ⟨ρ,vh,τ,st,S,?_⟩
 unfold fClean at p
 cases e:f τ vh with
 | ok v h1 =>
  rw [e] at p
  unfold dropO at p
  dsimp only at p
  by_cases q:inN vh.length v=true/\vosN vh.length (h1.take vh.length)=true
  ·rw [if_pos q] at p
   exact fun ρ1 H1 w1 p1 k1 S1 r1=>p (ρ1.take vh.length) H1 w1 (pre_cut p1 S.len) k1.trim (S1.trim q.2) (r1.trim q.1)
  ·rw [if_neg q] at p;exact p
 | exc _ _=>rw [e] at p;exact p
 | bad=>rw [e] at p;exact p
end
end FS
theorem L2.Room.m {j k:Nat} {A:PySem.Around} (r:L2.Room k A) (h:j<=k:=by decide):L2.Room j A:=r.mono h
namespace FS
open PySem PySem.Spec PyProof.Rows L2 FX
section
variable {X:Cx} {pins:List (Addr × Obj)} {σ:St} {H:Hp} {s:Shared} {h':Heap}
theorem inv_turned2 {t':Nat} {it lt:Addr} (I:Inv X pins σ H s) (k:∀ b o,b ≠ it->b ≠ lt->s.heap.get? b=some o->h'.get? b=some o) (f1:FpOk X pins H it) (f2:FpOk X pins H lt):Inv X pins σ H { s with heap:=h',toks:=t' }:=by
 have n1:∀ b u,H b=some u->b ≠ it:=fun b u e z=>by rw [z,f1.1] at e;cases e
 have n2:∀ b u,H b=some u->b ≠ lt:=fun b u e z=>by rw [z,f2.1] at e;cases e
 refine I.step (g':=s.gens) (d':=s.drawn) (ch:=[it,lt]) (fun b hb=>?_) (fun b o _ _ hc e _=>k b o (fun z=>hc (by simp [z])) (fun z=>hc (by simp [z])) e) (fun b o _ _ hc e _=>⟨o.slots,k b o (fun z=>hc (by simp [z])) (fun z=>hc (by simp [z])) e⟩) (fun _ _ _ _ n=>n)
  (fun b o hc e=>⟨o,k b o (fun z=>hc (by simp [z])) (fun z=>hc (by simp [z])) e⟩) (fun _ _ e=>e) (fun _ _ _ e=>e) (fun b ps e=>⟨#[],by rw [e];simp⟩) (fun m hm=>?_) (fun b u e=>?_) I.bare
 ·rcases (by simpa using hb:b=it\/b=lt) with rfl | rfl
  ·exact ⟨f1.2.2.2.1,f1.2.1,f1.2.2.2.2.1,f1.2.2.2.2.2⟩
  ·exact ⟨f2.2.2.2.1,f2.2.1,f2.2.2.2.2.1,f2.2.2.2.2.2⟩
 ·obtain ⟨o,es,ep,ho,r⟩:=hm
  exact ⟨o,es,ep,k _ o (Ne.symm f1.2.1) (Ne.symm f2.2.1) ho,r⟩
 ·refine (I.hok b u e).stay (fun c v hc q=>k c v ?_ ?_ q) (fun _ q=>q) fun _ _ q=>q
  ·rcases hc with z | z
   ·rw [z];exact n1 b u e
   ·exact n1 c _ z
  ·rcases hc with z | z
   ·rw [z];exact n2 b u e
   ·exact n2 c _ z
end
def Ite (K:PySem.W.Frag) (a:Addr):It :=
 ⟨fun i H=>∃ xs x,SqL K H a xs/\xs[i]?=some x,fun i H v H'=>∃ x p,H p=none/\v=.ref p/\H'=upd H p (.tup [.int i,x])/\∀ xs,SqL K H a xs->xs[i]?=some x,fun i H=>∃ xs,SqL K H a xs/\xs.length<=i⟩
def EnumAt (e lt a:Addr) (i:Nat) (h:Heap):Prop:=(∃ old,IsEnum h e lt i old)/\h.IsListIter lt a i/\e ≠ lt
theorem turn_enum {P:Program} {w:World} {K:PySem.W.Frag} {elts:List Expr} {x1} {tp:Pos} (a it lt:Addr):Turn P w K (.Tuple elts x1 tp) (Ite K a) [it,lt] it (EnumAt it lt a) where
 mem:=by simp
 obj:=fun i h st b hb=>by
  obtain ⟨⟨old,e1⟩,⟨o,e2,c,d⟩,ne⟩:=st
  rcases (by simpa using hb:b=it\/b=lt) with rfl | rfl
  ·exact ⟨_,e1,fun v z=>by cases z⟩
  ·exact ⟨o,e2,fun v z=>by rw [d] at z;cases z⟩
 keep:=fun i h h' st k=>by
  obtain ⟨⟨old,e1⟩,⟨o,e2,c,d⟩,ne⟩:=st
  exact ⟨⟨old,k it (by simp) _ e1⟩,⟨o,k lt (by simp) _ e2,c,d⟩,ne⟩
 item:=by
  intro X hP hw hK hc i pins s σ H E I hf st hg
  subst hP hw hK
  obtain ⟨xs,x,hq,hx⟩:=hg
  obtain ⟨⟨old,e1⟩,e2,ne⟩:=st
  obtain ⟨its,rv,pl,hz⟩:=I.list hq
  have f1:=hf it (by simp)
  have f2:=hf lt (by simp)
  have hlen:=rv.length
  have hi:i < xs.length:=(List.getElem?_eq_some_iff.mp hx).1
  obtain ⟨u,hu,ru⟩:=rv.get hx
  refine wpAny_pyNext_enum_item e1 e2 pl.isList (x:=u) (by simpa using hu) ne fun h' st1 st2 ht hsz kp=>⟨_,rfl,wpAny_letOwnedTupleGo_enum (s:={ s with heap:=h',toks:=s.toks + 1 }) st1 fun h2 st3 sb=>?_⟩
  have hit:it ≠ s.heap.objs.size:=Nat.ne_of_lt (Heap.lt_size e1)
  have hlt:lt ≠ s.heap.objs.size:=by obtain ⟨o,e,_⟩:=e2;exact Nat.ne_of_lt (Heap.lt_size e)
  have I1:Inv X pins σ H { s with heap:=h2,toks:=s.toks + 1 }:=inv_turned2 I (fun b o n1 n2 e=>(sb.2 b n1).trans (kp b o n1 n2 e)) f1 f2
  have fo:FpOk X pins H s.heap.objs.size:=I.fpOk (Nat.le_refl _) (I.hok.fresh (Nat.le_refl _))
  have ht2:h2.get? s.heap.objs.size=some { cls:=.type "tuple",data:=.seq #[.int i s.toks,u] }:=(sb.2 _ (Ne.symm hit)).trans ht
  have I2:=inv_track (v:=.tup [.int i,x]) I1 fo (Heap.get?_none_of_le I.sz) ⟨by show 2<=sizeLine;decide,[.int i s.toks,u],.cons ⟨_,rfl⟩ (.cons ru .nil),_,ht2,rfl,0,rfl⟩
  refine ⟨.ref s.heap.objs.size,_,I2,rfl,⟨x,s.heap.objs.size,fo.1,rfl,rfl,fun ys hy=>by rw [I.list_inj hy hq];exact hx⟩,⟨⟨_,st3⟩,?_,ne⟩,fun b hb=>?_⟩
  ·obtain ⟨o,e,c,d⟩:=st2
   exact ⟨o,(sb.2 lt (Ne.symm ne)).trans e,c,d⟩
  ·rcases (by simpa using hb:b=it\/b=lt) with rfl | rfl
   ·rw [upd_ne hit];exact f1.1
   ·rw [upd_ne hlt];exact f2.1
 done:=by
  intro X hP hw hK hc i pins s σ H E I hf st hg
  subst hP hw hK
  obtain ⟨xs,hq,hx⟩:=hg
  obtain ⟨⟨old,e1⟩,e2,ne⟩:=st
  obtain ⟨its,rv,pl,hz⟩:=I.list hq
  have f1:=hf it (by simp)
  have f2:=hf lt (by simp)
  have hlen:=rv.length
  refine wpAny_pyNext_enum_end (I.ok.hd hc) e1 e2 pl.isList (by simp;omega) fun h' kp=>⟨rfl,?_⟩
  exact inv_turned2 (t':=s.toks) I (fun b o n1 n2 e=>kp b o n2 e) f1 f2
 self:=fun A i s Q E st q=>by
  obtain ⟨⟨old,e1⟩,e2,ne⟩:=st
  exact wpAny_pyIter_enum e1 q
section
variable {tb:Tb} {X:Cx} {pos p pos':Pos} {e:Expr} {fe:FE}
def srcE (l:Nat):Src:=fun i h=>match lsOf h l with
 | some xs=>some (xs[i]?.map fun x=>.tup [.int i,x])
 | none=>none
def iEnum (K:PySem.W.Frag) (tl:TE):TI:=fun σ H R=>tl σ H fun v H1=>∃ a,v=.ref a/\(∃ xs,H1 a=some (.lst xs))/\R (Ite K a) H1
theorem hl_mono {tl:TE} {σ:St} {H:Hp} {R:It->Hp->Prop} (h:iEnum X.K tl σ H R) (hm:∀ σ H (Q Q':VK),(∀ v H,Q v H->Q' v H)->tl σ H Q->tl σ H Q'):tCons tl tNil σ H (fun vs H1=>∃ v,vs=[v]/\∃ a,v=.ref a/\(∃ xs,H1 a=some (.lst xs))/\R (Ite X.K a) H1) :=
 hm σ H _ _ (fun v H h=>⟨v,rfl,h⟩) h
theorem pi_enum {elts:List Expr} {x1} {tp:Pos} {tl:TE} (hg:Gl X "enumerate") (hm:X.mg "enumerate" = none) (hl:PE X e tl) (hmo:∀ σ H (Q Q':VK),(∀ v H,Q v H->Q' v H)->tl σ H Q->tl σ H Q') (hs:starEach [e] X.env=[(false,eval e X.env)]:=by rfl):PI X (.Tuple elts x1 tp) (.Call (.Name "enumerate" p) [e] [] pos) (iEnum X.K tl):=by
 intro pins s σ H R I h
 refine Call_ (ld_blt I hg hm boot_enumerate (PyProof.Rows.callWith_type1 (thn ((pa_cons hl pa_nil (by rw [hs];rfl)) pos pins s σ H (fun vs H1=>∃ v,vs=[v]/\∃ a,v=.ref a/\(∃ xs,H1 a=some (.lst xs))/\R (Ite X.K a) H1) I ?_) fun us s1 ⟨vs,H1,I1,r1,q1⟩=>?_) hs rfl))
 ·exact hl_mono h hmo
 obtain ⟨v,rfl,a,rfl,⟨xs,ha⟩,q⟩:=q1
 obtain ⟨u,rfl,ru⟩:=vals1 r1
 cases ru
 obtain ⟨hz,its,n,rv,eo⟩:=I1.hok a _ ha
 refine call_enumerate_1 eo fun h' st1 st2 hsz kp=>?_
 refine wpAny_pyIter_enum st1 ?_
 refine ⟨s1.heap.objs.size + 1,[s1.heap.objs.size + 1,s1.heap.objs.size],_,_,H1,rfl,I1.kept (t':=s1.toks) kp,turn_enum a _ _,⟨⟨_,st1⟩,st2,Nat.succ_ne_self _⟩,fun b hb=>?_,q⟩
 rcases (by simpa using hb:b=s1.heap.objs.size + 1\/b=s1.heap.objs.size) with rfl | rfl
 ·exact I1.fpOk (Nat.le_succ _) (I1.hok.fresh (Nat.le_succ _))
 ·exact I1.fpOk (Nat.le_refl _) (I1.hok.fresh (Nat.le_refl _))
theorem tOf_mono {X:Cx} {f:FE}:∀ σ H (Q Q':VK),(∀ v H,Q v H->Q' v H)->tOf tb X f σ H Q->tOf tb X f σ H Q':=fun σ H Q Q' m ⟨ρ,vh,τ,st,S,p⟩=>⟨ρ,vh,τ,st,S,by
 unfold Post at p ⊢
 cases e:f τ vh with
 | ok v h=>rw [e] at p;exact fun ρ1 H1 w p1 k1 S1 r1=>m _ _ (p ρ1 H1 w p1 k1 S1 r1)
 | exc x h=>rw [e] at p;exact p
 | bad=>rw [e] at p;exact p⟩
end
end FS
namespace FS
open PySem PySem.Spec PyProof.Rows L2 FX
section
variable {tb:Tb} {X:Cx} {pos p apos cpos:Pos} {a b e o:Expr} {es:List Expr} {fa fb fe fo:FE} {fs:FA}
end
end FS
namespace FS
open PySem PySem.Spec PyProof.Rows L2 FX
section
variable {tb:Tb} {X:Cx} {pos p apos cpos:Pos} {a b e o:Expr} {es:List Expr} {fa fb fe fo:FE} {fs:FA}
end
end FS
namespace FS
open PySem PySem.Spec PyProof.Rows L2 FX
section
variable {tb:Tb} {X:Cx} {pos p apos cpos:Pos} {a b e f o:Expr} {es:List Expr} {fa fb fe ff fo:FE} {fs:FA}
end
end FS
namespace FS
open PySem PySem.Spec PyProof.Rows L2 FX
section
variable {tb:Tb} {X:Cx} {pos:Pos}
end
end FS
namespace FS
open PySem PySem.Spec PyProof.Rows L2 FX
section
variable {tb:Tb} {X:Cx} {pos:Pos}
end
end FS
namespace FS
open PySem PySem.Spec PyProof.Rows L2 FX
section
variable {tb:Tb} {X:Cx}
variable {P:Program} {w:World} {K:PySem.W.Frag} {mg:Str->Option Value} {base:Heap}
theorem execs_hd {st:Stmt} {aft:List Stmt} {D:Ends} {s:Shared} {E:Value->Shared->Prop} (hn:∀ σ H,D.nx σ H->False) (h:wpAny (model X.prog X.w) X.A (exec st X.env) (SP X [] D) E s):wpAny (model X.prog X.w) X.A (execs (st :: aft) X.env) (SP X [] D) E s:=by
 refine wpAny_execs_cons (thn h fun f s1 q=>?_)
 cases f with
 | next=>obtain ⟨_,_,_,z⟩:=q;exact (hn _ _ z).elim
 | _=>exact q
def fMet (pr:List Nat) (fE:FE) (fh:FH):FE:=fun τ h=>match fE (startC 0 pr τ) h with
 | .exc x h'=>match fh x h' with
  | .ret v h2=>.ok v h2
  | _=>.bad
 | _=>.bad
theorem e_met {k:Nat} {f:Addr} {tname tqual tn dn:Str} {tparams params:Arguments} {tscope scope:Scope} {dV kV doc pm cdv ct oc:Value} {an od:Option Addr} {osl:Array (Option Value)} {Nt xs:List Str} {dp cp rp tpos tp pos lpos:Pos} {h₀:ExceptHandler} {hs:List ExceptHandler} {body:Expr} {aft:List Stmt}
  {clos:List (Str × Addr)} {c Pt:Addr} {q:Str} {pr:List Nat} {fE:FE} {fh:FH}
  (hX:X.prog=P/\X.w=w/\X.K=K/\X.mg=mg/\X.base=base) (hcalm:X.calm=true)
  (lk:K.lookup f=some ⟨oc,od,.func (PySem.W.fnOf tname tqual tparams (.Try [.Expr (.Call (.Name dn dp) [] [] cp) rp] (h₀ :: hs) [] [] tpos :: aft) tscope dV kV doc pm an cdv ct),osl⟩) (hcd:PySem.W.codeIn K cdv tqual=true) (Sc:FnScope Nt [dn] tscope) (hloc:tscope.names.lookup dn=some .local)
  (hg:Gl X tn) (hm:mg tn=some (.ref f)) (hk:PySem.W.keepIn K (.ref f)=true) (hb:Binds K (PySem.W.fnOf tname tqual tparams (.Try [.Expr (.Call (.Name dn dp) [] [] cp) rp] (h₀ :: hs) [] [] tpos :: aft) tscope dV kV doc pm an cdv ct) [dn] [])
  (hr:Room (k + 2) X.A) (L:LamAt X tb c Pt q) (hq:q=X.env.qual++"<lambda>") (hdef:defaultsOf params X.env=([],[])) (hcl:closureFor scope X.env=pure clos) (hall:AllC X.env.cells clos) (cap:CapOk X scope clos pr xs)
  (hbind:∀ pm' c' ctv,bindArgs (PySem.W.kla_fn "<lambda>" q params body scope clos pm' (.ref c') ctv) ⟨[],[]⟩=pure []) (hsk:scope.kind=.function) (hco:scope.isCoroutine=false) (hgen:scope.isGenerator=false)
  (hfree:∀ y ∈ scope.names,y.2 ≠ .cell/\y.2 ≠ .local/\(y.2=.free->(clos.lookup y.1).isSome=true))
  (hh:∀ (A:Around) (outer:List Env) (s:Shared) (H:Hp) (E:XK),Room (k + 1) (A.deeper (envOfC tqual tscope s.heap.objs.size f cdv))->HsOk tb (cxOf (CXF P w base) P w K mg base Nt tqual tscope f cdv A outer s H E) (h₀ :: hs) fh)
  (hE:∀ (A:Around) (stk:List Env) (Lz g:Addr) (c':Addr) (s:Shared) (H:Hp) (xe:Value->Shared->Prop),Room k (A.deeper (lamEnv scope Lz clos (q++".<locals>.") g (.ref c')))->EOk tb (cxT P w K mg base A stk xs (lamEnv scope Lz clos (q++".<locals>.") g (.ref c')) s H xe) body fE)
  (hdb:(tn == ("__debug__" : Str))=false:=by decide) (hdd:(dn == ("__debug__" : Str))=false:=by decide) (hdc:(dn == ("__classdict__" : Str))=false:=by decide) :
  EOk tb X (.Call (.Name tn tp) [.Lambda params body scope lpos] [] pos) (fMet pr fE fh):=by
 obtain ⟨rfl,rfl,rfl,rfl,rfl⟩:=hX
 intro pins s σ H Q I ⟨ρ,vh,τ,st,S,p⟩
 refine wpAny_Call_Name_kw (ld_glob I hg hm ?_ hdb)
 refine PySem.W.callWith_K (h₀:=X.base) I.ok.mod.kin hk ?_ rfl rfl
 show wpAny _ _ (spliced ((false,eval (.Lambda params body scope lpos) X.env) :: backTo pos (starEach [] X.env))) _ _ s
 refine Calls.spliced_cons (lam_eval L hq hdef hcl I S fun g c' ctv pm' H1 s1 ps k1 I1 S1 hgo hgn hgf hPt tri hamong=>?_)
 refine Calls.spliced_nil ⟨I1.kIn,?_⟩
 have C1:CellsAt clos xs (pr.map fun j=>(σ[j]?).getD none) H1 s1.heap:=cells_of I1 hall cap
 have st1:=(startC_rel (pr:=pr) 0 (st.mono List.prefix_rfl k1))
 have hbb:=hb s1 [.ref g] I1.kIn rfl
 rw [List.append_nil] at hbb
 -- the frame of the def
 have KX:=I1.kIn
 have lim:s1.heap.NoLimit:=I1.nolimit
 refine wpAny_call (codeAny_call_function (Room.mono hr (by omega:k + 1<=k + 2)).depth (KX _ _ lk) rfl Sc.co Sc.gen rfl (PySem.W.codeRec_of KX hcd) (hbb _ _ _ _ ?_))
 refine wpAny_newFunctionEnv_cells Sc.kind (fun ⟨n,v⟩ hy=>?_) fun env he s2 x=>?_
 ·have:n=dn:=by simpa using (List.of_mem_zip hy).1
  subst this;exact .inl hloc
 subst he
 refine ⟨lim.keeps x.toInCall.keep,codeAny_func ?_⟩
 have r1:Vals [V.ref g] [Value.ref g]:=.cons rfl .nil
 have IY:Inv (cxOf (CXF X.prog X.w X.base) X.prog X.w X.K X.mg X.base Nt tqual tscope f cdv X.A X.stack s1 H1 (fun _ _ _=>False)) [] (L2.start Nt [.ref g]) H1 s2:=inv_start Sc hr.hd I1.env0 rfl r1 x
 have hN0:Nt[0]?=some dn:=by
  have:=Sc.pre
  cases Nt with
  | nil=>simp at this
  | cons a t=>simp at this;rw [this];rfl
 have hσ0:(L2.start Nt [V.ref g])[0]?=some (some (V.ref g)):=by unfold L2.start;rfl
 have hrY:Room (k + 1) (X.A.deeper (envOfC tqual tscope s1.heap.objs.size f cdv)):=hr.deeper _
 have hHs:=hh X.A X.stack s1 H1 (fun _ _ _=>False) hrY
 have key:=try_raw (X:=cxOf (CXF X.prog X.w X.base) X.prog X.w X.K X.mg X.base Nt tqual tscope f cdv X.A X.stack s1 H1 (fun _ _ _=>False)) (tb:=tb) (pos:=tpos) (ρ:=ρ) (σ:=L2.start Nt [.ref g]) (H:=H1) (s:=s2) (D:={ nx:=fun _ _=>False,rt:=Q })
  (f:=match fE (startC 0 pr τ) vh with | .exc x h'=>.exc x h' | _=>.bad) (body:=[.Expr (.Call (.Name dn dp) [] [] cp) rp]) rfl ⟨rfl,rfl⟩ (fun _=>rfl) (fun xe D' pD=>?_) hHs IY ?_
 ·refine wpAny_mono (execs_hd (fun _ _ z=>z) key) (fun fl s' hs=>?_) fun e s' hs=>?_
  ·cases fl with
   | ret u =>
    obtain ⟨v,σ',H',J,rv,q⟩:=hs
    exact I1.after ⟨v,H',J.os,J.bare,J.base,J.hok,rv,q⟩
   | next=>obtain ⟨_,_,_,q⟩:=hs;exact q.elim
   | brk=>obtain ⟨_,_,_,q⟩:=hs;exact q.elim
   | cont=>obtain ⟨_,_,_,q⟩:=hs;exact q.elim
  ·refine wpAny_mono hs (fun _ s'' hz=>?_) fun e' s'' hz=>?_
   ·obtain ⟨_,_,_,_,_,_,_,_,_,_,_,_,_,_,_,_,_,_,_,z⟩:=hz;exact z.elim
   ·obtain ⟨_,_,_,_,_,_,_,_,_,_,_,_,_,_,_,_,_,_,_,z⟩:=hz;exact z.elim
 ·-- the lambda is called
  have te:PE { cxOf (CXF X.prog X.w X.base) X.prog X.w X.K X.mg X.base Nt tqual tscope f cdv X.A X.stack s1 H1 (fun _ _ _=>False) with xe:=xe } (.Call (.Name dn dp) [] [] cp) (fun σ' H' Q'=>σ'[0]?=some (some (V.ref g))/\∃ ρ' vh',Sim tb ρ' vh' H'/\StRel X.A.handled ρ' H' (startC 0 pr τ) (pr.map fun j=>(σ[j]?).getD none) /\
    Post tb { cxOf (CXF X.prog X.w X.base) X.prog X.w X.K X.mg X.base Nt tqual tscope f cdv X.A X.stack s1 H1 (fun _ _ _=>False) with xe:=xe } σ' ρ' H' (fE (startC 0 pr τ) vh') Q'):=by
   intro pins' s' σ' H' Q' J ⟨h0,ρ',vh',S',st',p'⟩
   refine wpAny_Call_Name_kw (thn (pe_var (X:={ cxOf (CXF X.prog X.w X.base) X.prog X.w X.K X.mg X.base Nt tqual tscope f cdv X.A X.stack s1 H1 (fun _ _ _=>False) with xe:=xe }) (pos:=dp) hN0 (.inl hloc) hdd hdc pins' s' σ' H' (fun v H2=>v=.ref g/\H2=H') J ⟨_,h0,rfl,rfl⟩) fun u s3 ⟨v,H2,J2,rv,hv,hH⟩=>?_)
   subst hv hH
   cases (show u=Value.ref g from rv)
   have ho:s3.heap.get? g=some (PySem.W.kla_obj "<lambda>" q params body scope clos pm' c' ctv):=J2.base.keep g _ hgo hgn hgf (by simp [cxOf])
   have hcr:s3.heap.CodeRec (.ref c') q:=by
    obtain ⟨more,hm2⟩:=J2.base.tbls Pt ps hPt
    obtain ⟨ps2,e2,t2,n2⟩:=S'.tab c Pt q L.mem
    rw [hm2] at e2;cases e2
    have ha2:=among_more more.toList _ tri hamong
    rw [<- Array.toList_append] at ha2
    obtain ⟨c3,φ,e3,h3,h4⟩:=n2 lpos _ ha2
    cases e3
    exact h4 _ (J2.hok c' _ h3).1
   refine Calls.callWith_function (a:=g) (PySem.evalArgs_none ⟨⟨ho,rfl⟩,?_⟩)
   refine wpAny_call (run_lam (xs:=xs) (σZ:=pr.map fun j=>(σ[j]?).getD none) (τZ:=startC 0 pr τ) (fE:=fE) J2 rfl ho hcr (hbind _ _ _) hrY.depth hsk hco hgen hfree (C1.un J2.base) (fun Lz s4 H4 xe4=>hE _ _ Lz g c' s4 H4 xe4 (hrY.deeper _)) st' S' p')
  refine pss_one (ps_expr te) [] s2 (L2.start Nt [.ref g]) H1 D' (IY.wish _) ⟨hσ0,ρ,vh,S1,?_,?_⟩
  ·simpa using st1
  ·cases ef:fE (startC 0 pr τ) vh with
   | ok v h'=>rw [ef] at pD;exact pD.elim
   | exc x h'=>rw [ef] at pD;exact fun ev s' q=>pD _ ev s' q
   | bad=>rw [ef] at pD;exact pD
 ·have p1:=Post.fwd List.prefix_rfl k1 p
  unfold fMet at p1
  cases ef:fE (startC 0 pr τ) vh with
  | ok v h'=>rw [ef] at p1;exact p1.elim
  | exc x h' =>
   rw [ef] at p1
   dsimp only at p1
   show PostS tb _ ρ H1 (fh x h') _
   cases eh:fh x h' with
   | ret v h2=>rw [eh] at p1;exact p1
   | next _ _=>rw [eh] at p1;exact p1.elim
   | brk _ _=>rw [eh] at p1;exact p1.elim
   | cont _ _=>rw [eh] at p1;exact p1.elim
   | exc _ _=>rw [eh] at p1;exact p1.elim
   | bad=>rw [eh] at p1;exact p1.elim
  | bad=>rw [ef] at p1;exact p1.elim
end
end FS
namespace FS
open PySem PySem.Spec PyProof.Rows L2 FX
section
variable {tb:Tb} {X:Cx} {pos:Pos} {a b:Expr} {fa fb:FE}
def strRep (z:Str) (k:Int):Str:=if (k == 1 || z.length == 0)=true then z else ⟨(List.replicate k.toNat z.cps).foldl (·++·) #[]⟩
theorem fold_size {α:Type} (xs:Array α):∀ (n:Nat) (acc:Array α),((List.replicate n xs).foldl (·++·) acc).size=acc.size + n * xs.size
 | 0,acc=>by simp
 | n + 1,acc=>by
  rw [List.replicate_succ,List.foldl_cons,fold_size xs n,Array.size_append,Nat.succ_mul]
  omega
def rSM:R2:=fun x y H Q=>∃ z k,x=.str z/\y=.int k/\0 < k/\k < 1000/\z.length<=1000/\Q (.str (strRep z k)) H
theorem op_strMul:OpR X (binaryOp .Mult) rSM:=by
 intro pins s σ H x y v u Q I rx ry h
 obtain ⟨z,k,rfl,rfl,h0,h1,h2,q⟩:=h
 obtain ⟨t,rfl⟩:=rx
 obtain ⟨t',rfl⟩:=ry
 refine PySem.P.mul_str (by simp;omega) (fun _ _=>?_) (fun _ _=>?_) ?_
 ·have:(1000:Int)<=(2 ^ 63 - 1) / k:=(Int.le_ediv_iff_mul_le h0).mpr (by omega)
  omega
 ·have hk:k.toNat<=1000:=by omega
  have:z.length * k.toNat<=1000 * 1000:=Nat.mul_le_mul h2 hk
  unfold PySem.Builtin.Str.tooLong
  simp only [decide_eq_false_iff_not]
  have h3:(1000 * 1000:Nat)<=sizeLine:=by rw [sizeLine_eq];decide
  omega
 ·rw [if_neg (by omega)]
  unfold strRep at q
  by_cases hz:(k == 1 || z.length == 0)=true
  ·rw [if_pos hz] at q ⊢
   show EP X pins σ Q (.str z t) s
   exact ⟨.str z,H,I,⟨t,rfl⟩,q⟩
  ·rw [if_neg hz] at q ⊢
   refine ⟨?_,.str _,H,I.tok _,⟨_,rfl⟩,q⟩
   show ((List.replicate k.toNat z.cps).foldl (·++·) #[]).size<=sizeLine
   rw [fold_size]
   have hk:k.toNat<=1000:=by omega
   have:k.toNat * z.cps.size<=1000 * 1000:=Nat.mul_le_mul hk h2
   have h3:(1000 * 1000:Nat)<=sizeLine:=by rw [sizeLine_eq];decide
   simp only [List.size_toArray,List.length_nil]
   omega
def gMul3:G2:=fun x y=>match x with
 | .str z=>match y with
  | .int k=>if 0 < k/\k < 1000/\z.length<=1000 then M.ret (.str (strRep z k)) else M.bad
  | _=>M.bad
 | _=>M.bad
theorem e_mulT (ha:EOk tb X a fa) (hb:EOk tb X b fb):EOk tb X (.BinOp a .Mult b pos) (fOp gMul3 fa fb):=e_op op_strMul (fun σ ρ vh H v1 v2 w1 w2 Q S r1 r2 p=>by
 cases v1 with
 | str z =>
  cases v2 with
  | int k =>
   simp only [gMul3] at p
   by_cases hz:0 < k/\k < 1000/\z.length<=1000
   ·rw [if_pos hz] at p
    exact ⟨z,k,r1,r2,hz.1,hz.2.1,hz.2.2,Post.here p S rfl⟩
   ·rw [if_neg hz] at p;exact p.elim
  | _=>exact p.elim
 | _=>exact p.elim) ha hb
end
end FS
namespace FS
open PySem PySem.Spec PyProof.Rows L2 FX
section
variable {tb:Tb} {X:Cx}
theorem srcJ_enum {K:PySem.W.Frag} {l:Nat} {a:Addr}:SrcJ tb (srcE l) (Ite K a) l a where
 stop:=fun i ρ vh H la S e=>by
  unfold srcE at e
  cases el:lsOf vh l with
  | none=>rw [el] at e;cases e
  | some xs =>
   rw [el] at e
   obtain ⟨vs,rr,rd⟩:=ls_rd S el la
   have e1:xs[i]?=none:=by simpa using e
   refine ⟨vs,.inl rd,?_⟩
   rw [rr.length];exact List.getElem?_eq_none_iff.mp e1
 go:=fun i ρ vh H x la S e=>by
  unfold srcE at e
  cases el:lsOf vh l with
  | none=>rw [el] at e;cases e
  | some xs =>
   rw [el] at e
   obtain ⟨vs,rr,rd⟩:=ls_rd S el la
   have e1:(xs[i]?.map fun y=>PV.tup [.int i,y])=some x:=by simpa using e
   obtain ⟨y,hy,rfl⟩:=Option.map_eq_some_iff.mp e1
   obtain ⟨w,hw,rw'⟩:=rr.get hy
   refine ⟨⟨vs,w,.inl rd,hw⟩,fun v H' hy=>?_⟩
   obtain ⟨z,pp,hpn,rfl,rfl,hy⟩:=hy
   have hz:=hy vs (.inl rd)
   rw [hw] at hz
   cases hz
   have k1:Keep ρ ρ H (upd H pp (.tup [.int i,w])):=Keep.new hpn
   exact ⟨k1,S.side hpn,pp,_,rfl,upd_same,_,_,rfl,rfl,_,_,rfl,rw'.mono List.prefix_rfl k1,rfl⟩
def fCompE (m:Nat) (pr:List Nat) (fi:FE) (g:FG) (ft:FT) (fe:FE):FE:=fun τ=>M.bind (fi τ) fun v=>match v with
 | .ref l=>fun h=>match h[l]? with
  | some (.lst xs)=>match compF (srcE l) g ft fe h.length (xs.length + 1) 0 (startC m pr τ) (h++[.lst []]) with
   | .ok _ h'=>.ok (.ref h.length) h'
   | _=>.bad
  | _=>.bad
 | _=>M.bad
theorem e_compE {elt a:Expr} {elts:List Expr} {x1} {tp p1' p2' cpos:Pos} {ifs:List Expr} {scope:Scope} {cl:List (Str × Addr)} {own xs:List Str} {pr:List Nat} {fi:FE} {g:FG} {ft:FT} {fe:FE} (hc:X.calm=true) (hgl:Gl X "enumerate") (hm:X.mg "enumerate" = none)
  (hclos:closureFor scope X.env=pure cl) (hcl:AllC X.env.cells cl) (cap:CapOk X scope cl pr xs) (hi:EOk tb X a fi)
  (hg:InBlock X (own++xs) scope cl fun Y=>GOk tb Y (.Tuple elts x1 tp) g) (ht:InBlock X (own++xs) scope cl fun Y=>IfsOk tb Y ifs ft) (he:InBlock X (own++xs) scope cl fun Y=>EOk tb Y elt fe)
  (hk:scope.kind=.function:=by rfl) (hcell:∀ y ∈ scope.names,y.2 ≠ .cell:=by decide) (hfree:∀ y ∈ scope.names,y.2=.free->y.1 ∈ xs:=by decide)
  (hnames:∀ x ∈ scope.names,x.2=.local->scope.names.lookup x.1=some .local:=by decide) (hs:∀ x,foldedSetIterable (.Call (.Name "enumerate" p1') [a] [] p2') X.env x=pure x:=by intro _;rfl) (hst:starEach [a] X.env=[(false,eval a X.env)]:=by rfl) :
  EOk tb X (.ListComp elt [⟨.Tuple elts x1 tp,.Call (.Name "enumerate" p1') [a] [] p2',ifs,0⟩] scope cpos) (fCompE own.length pr fi g ft fe):=by
 intro pins s σ H Q I ⟨ρ,vh,τ,st,S,p⟩
 rw [eval_ListComp]
 refine wpAny_comprehension_free (use:=none) rfl hs hclos hk hnames (wpAny_mono (pi_enum (elts:=elts) (x1:=x1) (tp:=tp) hgl hm hi tOf_mono hst pins s σ H (fun J H1=>∃ ρ1 vh1 l a xs vE,ρ<+:ρ1/\Keep ρ ρ1 H H1/\Sim tb ρ1 vh1 H1/\J=Ite X.K a/\ρ1[l]?=some a /\
  compF (srcE l) g ft fe vh1.length (List.length (α:=PV) xs + 1) 0 (startC own.length pr τ) (vh1++[.lst []])=.ok () vE/\∀ ρ' H' w',ρ1<+:ρ'->Keep ρ1 ρ' H1 H'->Sim tb ρ' vE H'->Rep ρ' H' (.ref vh1.length) w'->Q w' H') I ⟨ρ,vh,τ,st,S,seqEE p fun vh1 ρ1 H1 v1 w1 p1 k1 S1 r1 q1=>?_⟩) (fun v s1 hv=>wpAny_mono hv (fun itv s2 q2=>?_) fun _ _ z=>z) fun _ _ z=>z)
 ·cases v1 with
  | ref l =>
   obtain ⟨a,la,rfl⟩:=r1
   dsimp only at q1
   cases el:vh1[l]? with
   | none=>rw [el] at q1;exact q1.elim
   | some ob =>
    rw [el] at q1
    cases ob with
    | lst xs =>
     dsimp only at q1
     obtain ⟨vs,hv,rs⟩:=S1.obj l a _ la el
     cases e:compF (srcE l) g ft fe vh1.length (xs.length + 1) 0 (startC own.length pr τ) (vh1++[.lst []]) with
     | ok z vE =>
      rw [e] at q1
      exact ⟨a,rfl,⟨vs,hv⟩,ρ1,vh1,l,a,xs,vE,p1,k1,S1,rfl,la,e,q1⟩
     | exc _ _=>rw [e] at q1;exact q1.elim
     | bad=>rw [e] at q1;exact q1.elim
    | _=>exact q1.elim
  | _=>exact q1.elim
 ·obtain ⟨it,fp,tn,J,H1,rfl,I1,T,tn0,hfp,ρ1,vh1,l,a,xs',vE,p1,k1,S1,rfl,la,e,hQ⟩:=q2
  exact comp_core (l:=l) hcl cap hg ht he hk hcell hfree I1 (st.mono p1 k1) S1 hfp (fun b hb=>let ⟨o,ho,_⟩:=T.obj 0 _ tn0 b hb;⟨o,ho⟩) tn0 (fun s3=>TurnX.of (Y:=cxC X (own++xs) scope cl s3 _ _) T hc) (fun D=>⟨a,pre_get (List.prefix_append _ _) la,srcJ_enum⟩) e hQ
end
end FS
namespace FS
open PySem PySem.Spec PyProof.Rows L2 FX
section
variable {tb:Tb} {X:Cx}
theorem cut_texts {P:Program} {w:World} {A:Around} {E:Value->Shared->Prop} {s:Shared} {x y:Str} {t u:Tok} {R:Value->Shared->Prop} (hy:(y.length == 0)=false) (hz:x.length + 2<=sizeLine)
  (h:∀ l k,l.map (·.1)=Txt.split x y->R (.ref s.heap.objs.size) { s with heap:=s.heap.push { cls:=.type "list",data:=.seq (strValues l).toArray },toks:=k }):wpAny (model P w) A (call (.builtin "str.split") [.str x t,.str y u]) R E s:=by
 have T:s.TypeIs (.str x t) "str" := typeIs_str _ _ _
 cases o1:(decide (x.length < y.length) || decide (Builtin.Str.strKind x < Builtin.Str.strKind y)) with
 | true=>exact call_meets F.slot_str_split T F.entry_str_split (F.args_str_split_2 _ _) (meets_str_split_cannot_occur x y t u o1) (h [(x,t)] s.toks (by unfold Txt.split;rw [if_pos o1];rfl))
 | false =>
  have nt:¬ ((decide (x.length < y.length) || decide (Builtin.Str.strKind x < Builtin.Str.strKind y))=true):=by rw [o1];simp
  cases o2:(Builtin.Str.occurrences x y 0 x.length (x.length + 1)).isEmpty with
  | true=>exact call_meets F.slot_str_split T F.entry_str_split (F.args_str_split_2 _ _) (meets_str_split_not_found x y t u o1 hy o2) (h [(x,t)] s.toks (by unfold Txt.split;rw [if_neg nt,if_pos o2];rfl))
  | false =>
   have nt2:¬ ((Builtin.Str.occurrences x y 0 x.length (x.length + 1)).isEmpty=true):=by rw [o2];simp
   have le:(Builtin.Str.partsBetween x (Builtin.Str.occurrences x y 0 x.length (x.length + 1)) y.length).length<=sizeLine:=by
    have:=StrLaws.occ_length_le x y 0 x.length (x.length + 1)
    rw [length_partsBetween]
    omega
   refine call_meets F.slot_str_split T F.entry_str_split (F.args_str_split_2 _ _) (meets_str_split_sep x y t u o1 hy o2 (by omega) le) ?_
   have g:=h (numbered s.toks (Builtin.Str.partsBetween x (Builtin.Str.occurrences x y 0 x.length (x.length + 1)) y.length)) (s.toks + (Builtin.Str.partsBetween x (Builtin.Str.occurrences x y 0 x.length (x.length + 1)) y.length).length) (by rw [numbered_texts];unfold Txt.split;rw [if_neg nt,if_neg nt2])
   rw [<- strsFrom_eq] at g
   exact g
theorem vals_texts:∀ l:List (Str × Tok),Vals (l.map fun p=>V.str p.1) (strValues l)
 | []=>.nil
 | p :: r=>.cons ⟨p.2,rfl⟩ (vals_texts r)
theorem reps_texts {ρ:List Addr} {H:Hp}:∀ xs:List Str,Reps ρ H (xs.map PV.str) (xs.map V.str)
 | []=>rfl
 | x :: r=>⟨_,_,rfl,rfl,reps_texts r⟩
def gSplit:GM:=fun x xs=>match x,xs with
 | .str i,[.str j]=>if j.length ≠ 0/\i.length<=1000/\(Txt.split i j).length<=big then alloc (.lst ((Txt.split i j).map PV.str)) else M.bad
 | _,_=>M.bad
theorem mt_split:MtR X "str.split" (rmOf tb X gSplit):=fun pins s σ H x xs v us Q I rx rs ⟨σ',ρ,vh,y,ys,S,r,rr,p⟩=>by
 match y,ys,r,rr,p with
 | .str i,[.str j],r,rr,p =>
  cases (show x=.str i from r)
  obtain ⟨w,ws,rfl,r1,hn⟩:=rr
  cases (show ws=[] from hn)
  cases (show w=.str j from r1)
  obtain ⟨u,rfl,ru⟩:=rs.one
  obtain ⟨t,rfl⟩:=(show ∃ t,v=Value.str i t from rx)
  obtain ⟨t',rfl⟩:=(show ∃ t,u=Value.str j t from ru)
  simp only [gSplit] at p
  by_cases hz:j.length ≠ 0/\i.length<=1000/\(Txt.split i j).length<=big
  ·rw [if_pos hz] at p
   refine cut_texts (by simpa using hz.1) (by rw [sizeLine_eq];omega) fun l k e=>?_
   have hv:(Txt.split i j).map V.str=l.map fun p=>V.str p.1:=by rw [<- e,List.map_map];rfl
   refine ⟨.ref s.heap.objs.size,_,I.laid (t':=k) (o:=.lst ((Txt.split i j).map V.str)) (fun b ob q=>Heap.get?_push_of_some _ q) (Nat.le_refl _) ?_,rfl,Post.lst p S (reps_texts _) (I.hok.fresh (Nat.le_refl _))⟩
   exact ⟨by rw [List.length_map];exact Nat.le_trans hz.2.2 big_le,_,0,by rw [hv];exact vals_texts l,Heap.get?_push_size _ rfl⟩
  ·rw [if_neg hz] at p;exact p.elim
 | .non,_,_,_,p=>exact p.elim
 | .bl _,_,_,_,p=>exact p.elim
 | .int _,_,_,_,p=>exact p.elim
 | .ref _,_,_,_,p=>exact p.elim
 | .adr _,_,_,_,p=>exact p.elim
 | .ty _,_,_,_,p=>exact p.elim
 | .tup _,_,_,_,p=>exact p.elim
 | .exc _ _ _,_,_,_,p=>exact p.elim
 | .str _,[],_,_,p=>exact p.elim
 | .str _,z :: _ :: _,_,_,p=>cases z <;> exact p.elim
 | .str _,[.non],_,_,p=>exact p.elim
 | .str _,[.bl _],_,_,p=>exact p.elim
 | .str _,[.int _],_,_,p=>exact p.elim
 | .str _,[.ref _],_,_,p=>exact p.elim
 | .str _,[.adr _],_,_,p=>exact p.elim
 | .str _,[.ty _],_,_,p=>exact p.elim
 | .str _,[.tup _],_,_,p=>exact p.elim
 | .str _,[.exc _ _ _],_,_,p=>exact p.elim
end
end FS
namespace FS
open PySem PySem.Spec PyProof.Rows L2 FX
section
variable {P:Program} {w:World} {A:Around} {E:Value->Shared->Prop} {s:Shared} {I:Addr} {fp wr:List Addr} {G:Array GenState->Array GenState->Prop} {n:Nat} {Pv:Nat->Value->Prop} {St:Nat->Shared->Prop}
theorem walk_late (W:WalksS P w A I fp wr G n Pv St) (d:Nat) (hd:d<=n):WalksS P w A I fp wr G (n - d) (fun i=>Pv (i + d)) (fun i s=>St (i + d) s) where
 sub:=W.sub
 grefl:=W.grefl
 gtrans:=W.gtrans
 frame:=fun i s h' tk st=>W.frame (i + d) s h' tk st
 item:=fun i s Q E hi st hQ=>W.item (i + d) s Q E (by omega) st fun v s' h1 h2 h3=>hQ v s' h1 (by rw [show i + 1 + d=i + d + 1 by omega];exact h2) h3
 done:=fun s Q E st hQ=>W.done s Q E (by rw [show n - d + d=n by omega] at st;exact st) hQ
 self:=fun i s Q E st hQ=>W.self (i + d) s Q E st hQ
theorem star_walk {v x:Value} {T Ti id:String} {s1:Shared} {items:Array Value} {Q:List Value->Shared->Prop} (hT:s.TypeIs v T) (hl:typeLookup (.type T) "__iter__" = pure (some (.builtin id)))
  (hit:∀ (R:Value->Shared->Prop),R (.ref I) s1->wpAny (model P w) A (pyIter v) R E s) (W:WalksS P w A.in1 I fp wr G items.size (fun i v=>items[i]?=some v) St) (st0:St 0 s1)
  (hTi:Ti="str_ascii_iterator"\/Ti="str_iterator"\/Ti="list_iterator"\/Ti="tuple_iterator") (hI:I ∈ fp) (hty:∀ i s,St i s->s.TypeIs (.ref I) Ti) (hfp:∀ i s,St i s->∀ b ∈ fp,b < s.heap.objs.size)
  (h0:items[0]?=some x) (hz:items.size<=sizeLine)
  (hQ:∀ s2,Moved wr G s1 s2->Q [x,.ref s2.heap.objs.size] { s2 with heap:=s2.heap.push { cls:=.type "list",data:=.seq (items.toList.drop 1).toArray } }):wpAny (model P w) A (unpackItems v 2 (some 1)) Q E s:=by
 have hs:0 < items.size:=(Array.getElem?_eq_some_iff.mp h0).1
 unfold unpackItems
 refine wpAny_bind ?_
 unfold notIterableAtAll
 refine wpAny_bind (wpAny_specialOf hT hl (wpAny_pure ?_))
 simp only [Bool.false_eq_true,if_false]
 refine wpAny_bind (wpAny_holding (hit _ ?_))
 refine wpAny_bind (wpAny_holding ?_)
 show wpAny _ _ (pyNext (.ref I) >>= _) _ _ s1
 refine wpAny_bind ((WalksS.of_in1 W).item 0 s1 _ _ hs st0 fun y s2 hy st1 m1=>?_)
 have hyx:y=x:=by
  have e:items[0]?=some y:=hy
  rw [h0] at e
  exact (Option.some.inj e).symm
 subst hyx
 refine wpAny_bind (wpAny_holding ?_)
 show wpAny _ _ (pure []) _ _ s2
 refine wpAny_pure (wpAny_pure ?_)
 rw [if_neg (by simp)]
 refine wpAny_bind (wpAny_holding (wpAny_collect_iter hTi (walk_late W 1 hs) (fun i s st=>hty (i + 1) s st) st1 (fun b hb=>hfp 1 s2 st1 b hb) hI (fun s3 acc m2 it=>?_) (by omega)))
 have ea:acc.toList=items.toList.drop 1:=by
  apply List.ext_getElem?
  intro j
  rw [List.getElem?_drop]
  by_cases hj:j < acc.size
  ·have h1:=it.2 j acc[j] (by simp [hj])
   have h2:items[j + 1]?=some acc[j]:=h1
   rw [Array.getElem?_toList,Array.getElem?_toList,show 1 + j=j + 1 by omega,h2]
   simp [hj]
  ·have h3:=it.1
   rw [Array.getElem?_toList,Array.getElem?_toList,Array.getElem?_eq_none (by omega),Array.getElem?_eq_none (by omega)]
 rw [if_neg (by simp)]
 have hm:acc.toList.length - (2 - 1 - 1)=acc.toList.length:=by omega
 rw [hm,List.take_of_length_le (Nat.le_refl _),List.drop_of_length_le (Nat.le_refl _),ea]
 refine wpAny_bind (wpAny_newObj_type (wpAny_pure ?_) ?_)
 ·exact hQ s3 ⟨fun b o hb e=>m2.heap b o hb (m1.heap b o hb e),W.gtrans _ _ _ m1.gens m2.gens,m2.drawn.trans m1.drawn,m2.os.trans m1.os,Nat.le_trans m1.toks m2.toks⟩
 ·show (items.toList.drop 1).toArray.size<=sizeLine
  rw [List.size_toArray,List.length_drop,Array.length_toList]
  omega
end
theorem walks_tup {P:Program} {w:World} {A:Around} (hh:A.handled=none) (I t:Addr) (hne:t ≠ I) (items:Array Value):Walks P w A I [I,t] [I] items.size (fun i v=>items[i]?=some v) (fun i h=>IsTupIter h I t i/\IsTup h t items) where
 sub:=fun b hb=>by simp at hb;simp [hb]
 frame:=fun i h h' ⟨⟨o,e,x⟩,⟨o2,e2,x2⟩⟩ hk=>⟨⟨o,hk I (by simp) o e,x⟩,⟨o2,hk t (by simp) o2 e2,x2⟩⟩
 item:=fun i s Q E hi st hQ=>next_tuple_item st.1 st.2 (x:=items[i]) (by simp [hi]) fun h' t1 sb=>hQ _ h' s.toks (by simp [hi]) ⟨t1,st.2.extBut sb.extBut hne⟩ fun b o hb e=>sb.extBut b o (fun h=>hb (by simp [h])) e
 done:=fun s Q E st hQ=>next_tuple_end hh st.1 st.2 (by simp) fun h' eb=>hQ h' s.toks fun b o hb e=>eb b o (fun h=>hb (by simp [h])) e
 self:=fun _ _ _ _ st hQ=>wpAny_pyIter_tupleiter (show Heap.IsTupleIter _ _ _ _ from st.1) hQ
section
variable {tb:Tb} {X:Cx} {pos:Pos}
def headTail (h:VH):PV->Option (PV × List PV)
 | .tup (x :: r)=>some (x,r)
 | .ref l=>match lsOf h l with
  | some (x :: r)=>some (x,r)
  | _=>none
 | _=>none
def gStar (gs:List FG):FG:=fun v τ h=>match headTail h v with
 | some (x,r)=>gsA gs [x,.ref h.length] τ (h++[.lst r])
 | none=>.bad
theorem star_run {pins:List (Addr × Obj)} {s:Shared} {σ:St} {H:Hp} {u:Value} {w:V} {vs:List V} {x:V} {r:List V} {R:List Value->Shared->Prop} (hc:X.calm=true) (I:Inv X pins σ H s) (ru:RelV w u) (hv:vs=x :: r) (hq:(∃ a,w=.ref a/\SqL X.K H a vs)\/(∃ a,w=.ref a/\SqT X.K H a vs))
  (hR:∀ s2 D u1,RelV x u1->H D=none->Inv X pins σ (upd H D (.lst r)) s2->R [u1,.ref D] s2):wpAny (model X.prog X.w) X.A (unpackItems u 2 (some 1)) R X.xe s:=by
 subst hv
 rcases hq with ⟨a,rfl,hq⟩ | ⟨a,rfl,hq⟩
 ·cases ru
  obtain ⟨its,rv,pl,hz⟩:=I.list hq
  have hlen:=rv.length
  cases rv with
  | @cons _ y _ ys r1 r2 =>
   have hlt:a ≠ s.heap.objs.size:=by obtain ⟨o,ho,_⟩:=pl.isList;exact Nat.ne_of_lt (Heap.lt_size ho)
   refine star_walk (items:=(y :: ys).toArray) (x:=y) (s1:={ s with heap:=s.heap.push { cls:=.type "list_iterator",data:=.fields #[.ref a,.int 0 0] } }) (I:=s.heap.objs.size) pl.isList.typeIs F.slot_list_iter.lookup (fun R h=>wpAny_pyIter_list pl.isList h) (Walks.list (A:=X.A.in1) (I.ok.hd hc) s.heap.objs.size a hlt _).toS ⟨⟨_,Heap.get?_push_size _ rfl,rfl,rfl⟩,pl.isList.push _⟩ (.inr (.inr (.inl rfl))) (by simp) (fun i s st=>?_) (fun i s st b hb=>?_) rfl (by simpa using (show (y :: ys).length<=sizeLine by omega)) fun s2 m=>?_
   ·obtain ⟨⟨o,ho,hcl,_⟩,_⟩:=st;exact ⟨o,ho,hcl⟩
   ·obtain ⟨⟨o,ho,_⟩,⟨o2,ho2,_⟩⟩:=st
    rcases (by simpa using hb:b=_\/b=_) with rfl | rfl
    ·exact Heap.lt_size ho
    ·exact Heap.lt_size ho2
   ·have es:s2={ s with heap:=s2.heap,toks:=s2.toks }:=by
     obtain ⟨h2,g2,d2,k2,o2⟩:=s2
     obtain ⟨_,e1,e2,e3,_⟩:=m
     dsimp only at e1 e2 e3
     subst e1 e2 e3
     rfl
    have I2:Inv X pins σ H { s with heap:=s2.heap,toks:=s2.toks }:=I.kept fun b o e=>m.heap b o (by simpa using Nat.ne_of_lt (Heap.lt_size e)) (Heap.get?_push_of_some _ e)
    rw [es]
    refine hR _ _ y r1 (I2.hok.fresh (Nat.le_refl _)) (I2.laid (t':=s2.toks) (o:=.lst r) (fun b ob q=>Heap.get?_push_of_some _ q) (Nat.le_refl _) ?_)
    exact ⟨by simp only [List.length_cons] at hlen hz;omega,ys,0,r2,Heap.get?_push_size _ rfl⟩
 ·cases ru
  obtain ⟨its,rv,pl,hz⟩:=I.tuple hq
  have hlen:=rv.length
  cases rv with
  | @cons _ y _ ys r1 r2 =>
   have hlt:a ≠ s.heap.objs.size:=by obtain ⟨o,ho,_⟩:=pl;exact Nat.ne_of_lt (Heap.lt_size ho)
   refine star_walk (items:=(y :: ys).toArray) (x:=y) (s1:={ s with heap:=s.heap.push { cls:=.type "tuple_iterator",data:=.fields #[.ref a,.int 0 0] } }) (I:=s.heap.objs.size) pl.typeIs slot_tuple_iter.lookup (fun R h=>iter_tuple pl h) (walks_tup (A:=X.A.in1) (I.ok.hd hc) s.heap.objs.size a hlt _).toS ⟨⟨_,Heap.get?_push_size _ rfl,rfl,rfl⟩,pl.push _⟩ (.inr (.inr (.inr rfl))) (by simp) (fun i s st=>?_) (fun i s st b hb=>?_) rfl (by simpa using (show (y :: ys).length<=sizeLine by omega)) fun s2 m=>?_
   ·obtain ⟨⟨o,ho,hcl,_⟩,_⟩:=st;exact ⟨o,ho,hcl⟩
   ·obtain ⟨⟨o,ho,_⟩,⟨o2,ho2,_⟩⟩:=st
    rcases (by simpa using hb:b=_\/b=_) with rfl | rfl
    ·exact Heap.lt_size ho
    ·exact Heap.lt_size ho2
   ·have es:s2={ s with heap:=s2.heap,toks:=s2.toks }:=by
     obtain ⟨h2,g2,d2,k2,o2⟩:=s2
     obtain ⟨_,e1,e2,e3,_⟩:=m
     dsimp only at e1 e2 e3
     subst e1 e2 e3
     rfl
    have I2:Inv X pins σ H { s with heap:=s2.heap,toks:=s2.toks }:=I.kept fun b o e=>m.heap b o (by simpa using Nat.ne_of_lt (Heap.lt_size e)) (Heap.get?_push_of_some _ e)
    rw [es]
    refine hR _ _ y r1 (I2.hok.fresh (Nat.le_refl _)) (I2.laid (t':=s2.toks) (o:=.lst r) (fun b ob q=>Heap.get?_push_of_some _ q) (Nat.le_refl _) ?_)
    exact ⟨by simp only [List.length_cons] at hlen hz;omega,ys,0,r2,Heap.get?_push_size _ rfl⟩
theorem g_star {a b:Expr} {p3:Pos} {k:Nat} {gs:List FG} (hc:X.calm=true) (h:GsOk tb X [a,b] gs) (h1:(assignEach [a,.Starred b p3] X.env).map (·.2)=(assignEach [a,b] X.env).map (·.2):=by rfl) (h2:(assignEach [a,.Starred b p3] X.env).length=2:=by rfl)
  (h3:(assignEach [a,.Starred b p3] X.env).findIdx? (·.1)=some 1:=by rfl):GOk tb X (.Tuple [a,.Starred b p3] k pos) (gStar gs):=by
 intro pins s σ H w u Q I r ⟨ρ,vh,τ,v,st,S,rv,p⟩
 rw [assign_Tuple]
 refine wpAny_bind (wpAny_standAt ?_)
 unfold unpack
 rw [h2,h3]
 unfold gStar at p
 cases e:headTail vh v with
 | none=>rw [e] at p;exact p.elim
 | some xr =>
  obtain ⟨x,xs⟩:=xr
  rw [e] at p
  dsimp only at p
  have key:∃ y ys,((∃ a,w=.ref a/\SqL X.K H a (y :: ys))\/(∃ a,w=.ref a/\SqT X.K H a (y :: ys)))/\Rep ρ H x y/\Reps ρ H xs ys:=by
   cases v with
   | tup zs =>
    cases zs with
    | nil=>cases e
    | cons z zs =>
     cases e
     obtain ⟨a,vs,rfl,ha,y,ys,rfl,r1,r2⟩:=rv
     exact ⟨y,ys,.inr ⟨a,rfl,SqT.of ha⟩,r1,r2⟩
   | ref l =>
    obtain ⟨a,la,rfl⟩:=rv
    simp only [headTail] at e
    cases el:lsOf vh l with
    | none=>rw [el] at e;cases e
    | some zs =>
     rw [el] at e
     cases zs with
     | nil=>cases e
     | cons z zs =>
      cases e
      obtain ⟨vs,rr,rd⟩:=ls_rd S el la
      obtain ⟨y,ys,rfl,r1,r2⟩:=rr
      exact ⟨y,ys,.inl ⟨a,rfl,.inl rd⟩,r1,r2⟩
   | _=>cases e
  obtain ⟨y,ys,hq,r1,r2⟩:=key
  refine wpAny_bind (wpAny_holding (star_run hc I r rfl hq fun s2 D u1 ru hD I2=>?_))
  rw [h1]
  have kp:Keep ρ (ρ++[D]) H (upd H D (.lst ys)):=Keep.push hD
  have pf:ρ<+:ρ++[D]:=List.prefix_append _ _
  refine h pins s2 σ _ [y,.ref D] [u1,.ref D] Q I2 (.cons ru (.cons rfl .nil)) ⟨ρ++[D],vh++[.lst xs],τ,[x,.ref vh.length],st.mono pf kp,S.push (o:=.lst xs) hD ⟨ys,upd_same,r2.mono pf kp⟩,⟨y,_,rfl,r1.mono pf kp,_,_,rfl,⟨D,?_,rfl⟩,rfl⟩,?_⟩
  ·rw [<- S.len];simp
  ·cases eg:gsA gs [x,.ref vh.length] τ (vh++[.lst xs]) with
   | next τ' vh'=>rw [eg] at p;exact fun ρ' H' σ' p1 k1 S1 st1=>p ρ' H' σ' (pf.trans p1) (kp.trans k1) S1 st1
   | brk _ _=>rw [eg] at p;exact p.elim
   | cont _ _=>rw [eg] at p;exact p.elim
   | ret _ _=>rw [eg] at p;exact p.elim
   | exc _ _=>rw [eg] at p;exact p.elim
   | bad=>rw [eg] at p;exact p.elim
end
end FS
namespace FS
open PySem PySem.Spec PyProof.Rows L2 FX
def loopX (src:Src) (g:FG) (body:FSt):Nat->Nat->FSt
 | 0,_=>fun _ _=>.bad
 | n + 1,i=>fun τ h=>match src i h with
  | none=>.bad
  | some none=>.next τ h
  | some (some x)=>match g x τ h with
   | .next τ1 h1=>match body τ1 h1 with
    | .next τ2 h2=>loopX src g body n (i + 1) τ2 h2
    | .cont τ2 h2=>loopX src g body n (i + 1) τ2 h2
    | .brk τ2 h2=>.next τ2 h2
    | .ret v h2=>.ret v h2
    | .exc y h2=>.exc y h2
    | .bad=>.bad
   | _=>.bad
section
variable {tb:Tb} {X:Cx} {pos p pos':Pos} {e:Expr}
def LoopXIn (tb:Tb) (X:Cx) (src:Src) (g:FG) (body:FSt) (D:Ends) (l:Nat) (a:Addr) (n i:Nat) (σ:St) (H:Hp):Prop :=
 ∃ ρ vh τ,ρ[l]?=some a/\StRel X.A.handled ρ H τ σ/\Sim tb ρ vh H/\PostS tb X ρ H (loopX src g body n i τ vh) D
theorem loopX_turn {src:Src} {g:FG} {body:FSt} {n i:Nat} {D:Ends} {σ:St} {ρ:List Addr} {H:Hp} {vh:VH} {τ:Tau} {x:PV} {w:V} {l:Nat} {a:Addr} (la:ρ[l]?=some a)
  (st:StRel X.A.handled ρ H τ σ) (S:Sim tb ρ vh H) (r:Rep ρ H x w) (e:src i vh=some (some x)) (p:PostS tb X ρ H (loopX src g body (n + 1) i τ vh) D) :
  tOfG tb X g w σ H fun σ2 H2=>tOfS tb X body { D with nx:=(LoopXIn tb X src g body D l a n (i + 1)),ct:=(LoopXIn tb X src g body D l a n (i + 1)),bk:=D.nx } σ2 H2:=by
 refine ⟨ρ,vh,τ,x,st,S,r,?_⟩
 unfold loopX at p
 rw [e] at p
 dsimp only at p
 cases e1:g x τ vh with
 | next τ1 h1 =>
  rw [e1] at p
  refine fun ρ1 H1 σ1 p1 k1 S1 st1=>⟨ρ1,h1,τ1,st1,S1,?_⟩
  dsimp only at p
  cases e2:body τ1 h1 with
  | next τ2 h2=>rw [e2] at p;exact fun ρ2 H2 σ2 p2 k2 S2 st2=>⟨ρ2,h2,τ2,pre_get (p1.trans p2) la,st2,S2,PostS.fwd (p1.trans p2) (k1.trans k2) p⟩
  | cont τ2 h2=>rw [e2] at p;exact fun ρ2 H2 σ2 p2 k2 S2 st2=>⟨ρ2,h2,τ2,pre_get (p1.trans p2) la,st2,S2,PostS.fwd (p1.trans p2) (k1.trans k2) p⟩
  | brk τ2 h2=>rw [e2] at p;exact fun ρ2 H2 σ2 p2 k2 S2 st2=>p ρ2 H2 σ2 (p1.trans p2) (k1.trans k2) S2 st2
  | ret v h2=>rw [e2] at p;exact fun ρ2 H2 w2 p2 k2 S2 r2=>p ρ2 H2 w2 (p1.trans p2) (k1.trans k2) S2 r2
  | exc y h2=>rw [e2] at p;exact PostS.fwd (D:=D) p1 k1 p
  | bad=>rw [e2] at p;exact p.elim
 | brk _ _=>rw [e1] at p;exact p.elim
 | cont _ _=>rw [e1] at p;exact p.elim
 | ret _ _=>rw [e1] at p;exact p.elim
 | exc _ _=>rw [e1] at p;exact p.elim
 | bad=>rw [e1] at p;exact p.elim
theorem loopX_walk {g:FG} {body:FSt} {D:Ends} {σ:St} {ρ:List Addr} {H:Hp} {vh:VH} {τ:Tau} {l:Nat} {a:Addr} {n:Nat} {src:Src} {J:It} (SJ:SrcJ tb src J l a) (la:ρ[l]?=some a)
  (st:StRel X.A.handled ρ H τ σ) (S:Sim tb ρ vh H) (p:PostS tb X ρ H (loopX src g body n 0 τ vh) D) :
  ∃ W:Nat->Nat->St->Hp->Prop,(∃ m,W 0 m σ H)/\∀ i m σ H,W i m σ H ->
   (J.stop i H/\D.nx σ H)\/(J.go i H/\∃ N:St->Hp->Prop,(∀ σ' H',N σ' H'->∃ m',m' < m/\W (i + 1) m' σ' H')/\∀ x H',J.yld i H x H'->tOfG tb X g x σ H' fun σ2 H2=>tOfS tb X body { D with nx:=N,ct:=N,bk:=D.nx } σ2 H2):=by
 refine ⟨fun i m σ H=>LoopXIn tb X src g body D l a m i σ H,⟨n,ρ,vh,τ,la,st,S,p⟩,?_⟩
 rintro i m σ H ⟨ρ,vh,τ,la,st,S,p⟩
 cases m with
 | zero=>exact p.elim
 | succ m =>
  have p0:=p
  unfold loopX at p
  cases e:src i vh with
  | none=>rw [e] at p;exact p.elim
  | some o =>
   cases o with
   | none=>rw [e] at p;exact .inl ⟨SJ.stop i ρ vh H la S e,PostS.next p S st⟩
   | some x =>
    obtain ⟨g1,y1⟩:=SJ.go i ρ vh H x la S e
    refine .inr ⟨g1,_,fun σ' H' q=>⟨m,Nat.lt_succ_self _,q⟩,fun v H' hy=>?_⟩
    obtain ⟨k1,S1,r1⟩:=y1 v H' hy
    exact loopX_turn la (st.mono List.prefix_rfl k1) S1 r1 e (PostS.fwd List.prefix_rfl k1 p0)
def sForEX (fi:FE) (g:FG) (body:FSt):FSt:=fun τ h=>match fi τ h with
 | .ok (.ref l) h1=>match h1[l]? with
  | some (.lst _)=>loopX (srcE l) g body (lenL h1 l + 1) 0 τ h1
  | _=>.bad
 | _=>.bad
theorem s_forEX {elts:List Expr} {x1} {tp:Pos} {body:List Stmt} {fi:FE} {g:FG} {f:FSt} (hp:PassesOwn (model X.prog X.w) X.A X.env X.xe) (hc:X.calm=true) (hgl:Gl X "enumerate") (hmg:X.mg "enumerate" = none) (hi:EOk tb X e fi) (hg:GOk tb X (.Tuple elts x1 tp) g) (hb:BOk tb X body f)
  (hs:∀ x,foldedSetIterable (.Call (.Name "enumerate" p) [e] [] pos') X.env x=pure x:=by intro _;rfl) (hst:starEach [e] X.env=[(false,eval e X.env)]:=by rfl) :
  SOk tb X (.For (.Tuple elts x1 tp) (.Call (.Name "enumerate" p) [e] [] pos') body [] pos) (sForEX fi g f):=by
 refine PS.mono (ps_for hp hc (pi_enum hgl hmg hi tOf_mono hst) hg hb hs) fun D σ H ⟨ρ,vh,τ,st,S,p⟩=>?_
 refine ⟨ρ,vh,τ,st,S,?_⟩
 unfold sForEX at p
 cases e:fi τ vh with
 | ok v h1 =>
  rw [e] at p
  cases v with
  | ref l =>
   intro ρ1 H1 w p1 k1 S1 r1
   obtain ⟨a,la,rfl⟩:=r1
   dsimp only at p
   cases el:h1[l]? with
   | none=>rw [el] at p;exact p.elim
   | some ob=>cases ob with
    | lst xs =>
     rw [el] at p
     obtain ⟨vs,hv,rs⟩:=S1.obj l a _ la el
     exact ⟨a,rfl,⟨vs,hv⟩,loopX_walk srcJ_enum la (st.mono p1 k1) S1 (PostS.fwd p1 k1 p)⟩
    | _=>rw [el] at p;exact p.elim
  | _=>exact p.elim
 | exc _ _=>rw [e] at p;exact p.elim
 | bad=>rw [e] at p;exact p.elim
end
end FS
namespace FS
open PySem PySem.Spec PyProof.Rows L2 FX
section
variable {tb:Tb} {X:Cx} {pos:Pos} {a b:Expr} {fa fb:FE} {F:Addr} {kvs:List (Str × Addr)} {pins:List (Addr × Obj)} {σ:St} {H:Hp} {s:Shared}
def pairsT (kvs:List (Str × Addr)):List (Key × Value):=kvs.map fun p=>(Sum.inr p.1,.ref p.2)
def lookT (kvs:List (Str × Addr)) (x:Str):Option Addr:=(kvs.find? fun p=>decide (p.1=x)).map (·.2)
def TopD (P:Program) (w:World) (K:PySem.W.Frag) (F:Addr) (kvs:List (Str × Addr)):Prop :=
 (∃ o es ep,K.lookup F=some o/\o.ExactDict/\o.data=.dict es ep/\PySem.KeysOf (mixKind P w) es/\PySem.Pairs (mixKind P w) es.toList (pairsT kvs)/\((pairsT kvs).map (·.1)).Nodup)/\(F == sysModules)=false
theorem TopD.at (T:TopD X.prog X.w X.K F kvs) (I:Inv X pins σ H s):s.heap.DictOf (mixKind X.prog X.w) F (pairsT kvs):=by
 obtain ⟨⟨o,es,ep,l,d⟩,_⟩:=T
 exact ⟨o,es,ep,I.kIn F o l,d⟩
theorem valueAt_T:∀ {kvs:List (Str × Addr)} {x:Str},valueAt (pairsT kvs) (Sum.inr x:Key)=(lookT kvs x).map Value.ref
 | [],_=>rfl
 | (y,a) :: r,x=>by
  have ih:=valueAt_T (kvs:=r) (x:=x)
  unfold valueAt lookT pairsT at ih ⊢
  by_cases h:y=x
  ·subst h;simp
  ·have h':¬ (Sum.inr y:Key)=Sum.inr x:=fun z=>h (Sum.inr.inj z)
   simp only [List.map_cons,List.find?_cons,h,h',decide_false]
   exact ih
theorem ix_top (T:TopD X.prog X.w X.K F kvs):IxR X (fun x y H Q=>∃ k c,x=.ref F/\y=.str k/\lookT kvs k=some c/\Q (.ref c) H):=by
 intro value slice pins s σ H x y v u Q I rx ry h hs
 obtain ⟨k,c,rfl,rfl,l,q⟩:=h
 cases rx
 have dd:=T.at I
 exact tail_any dd.typeIs PySem.F.slot_dict_getitem.lookup (wpAny_getItem_of (kV_is (k:=Sum.inr k) ry) dd.mapOf (by rw [valueAt_T,l];rfl) ⟨.ref c,H,I.tok _,rfl,q⟩) hs
theorem op_notInTop (T:TopD X.prog X.w X.K F kvs):OpR X (compareOp .NotIn) (fun x y H Q=>∃ k,x=.str k/\y=.ref F/\Q (.bl (!(lookT kvs k).isSome)) H):=by
 intro pins s σ H x y v u Q I rx ry h
 obtain ⟨k,rfl,rfl,q⟩:=h
 cases ry
 have dd:=T.at I
 refine wpAny_notIn_of (kV_is (k:=Sum.inr k) rx) T.2 dd.mapOf ?_
 rw [valueAt_T,Option.isSome_map]
 exact ⟨.bl _,H,I.tok _,rfl,q⟩
def gIxT (F:Addr) (kvs:List (Str × Addr)):G2:=fun x y=>match x with
 | .adr f=>match y with
  | .str k=>if f=F then (match lookT kvs k with
   | some c=>M.ret (.adr c)
   | none=>M.bad) else M.bad
  | _=>M.bad
 | _=>M.bad
theorem e_ixT (T:TopD X.prog X.w X.K F kvs) (ha:EOk tb X a fa) (hb:EOk tb X b fb) (hs:PlainIx b:=by intro _ _;rfl):EOk tb X (.Subscript a b pos) (fOp (gIxT F kvs) fa fb) :=
 PE.mono (pe_ix (ix_top T) ha hb hs) (op_mono (fun σ ρ vh H v1 v2 w1 w2 Q S r1 r2 p=>by
  cases v1 with
  | adr f =>
   cases v2 with
   | str k =>
    simp only [gIxT] at p
    by_cases hf:f=F
    ·subst hf
     rw [if_pos rfl] at p
     cases el:lookT kvs k with
     | none=>rw [el] at p;exact p.elim
     | some c=>rw [el] at p;exact ⟨k,c,r1,r2,el,Post.here p S rfl⟩
    ·rw [if_neg hf] at p;exact p.elim
   | _=>exact p.elim
  | _=>exact p.elim))
def gInT (F:Addr) (kvs:List (Str × Addr)) (n:Bool):G2:=fun x y=>match x with
 | .str k=>match y with
  | .adr f=>if f=F then M.ret (.bl (xor n (lookT kvs k).isSome)) else M.bad
  | _=>M.bad
 | _=>M.bad
theorem t_notInT (T:TopD X.prog X.w X.K F kvs) (ha:EOk tb X a fa) (hb:EOk tb X b fb) (hm:behindInMarks .NotIn b=false:=by rfl):TOk tb X (.Compare a [.NotIn] [b] pos) (fB (fOp (gInT F kvs true) fa fb)):=t_cmp (op_notInTop T) (fun σ ρ vh H v1 v2 w1 w2 Q S r1 r2 p=>by
  cases v1 with
  | str k =>
   cases v2 with
   | adr f =>
    simp only [gInT] at p
    by_cases hf:f=F
    ·subst hf
     rw [if_pos rfl] at p
     exact ⟨k,r1,r2,by
      have e:(true ^^ (lookT kvs k).isSome)=!(lookT kvs k).isSome:=by cases (lookT kvs k).isSome <;> rfl
      rw [e] at p
      exact Post.here p S rfl⟩
    ·rw [if_neg hf] at p;exact p.elim
   | _=>exact p.elim
  | _=>exact p.elim) ha hb hm
end
end FS
namespace FS
open PySem PySem.Spec PyProof.Rows L2 FX
section
variable {tb:Tb} {X:Cx} {apos cpos:Pos} {o e f:Expr} {fo fe ff:FE} {td ty tx:TE} {F:Addr} {kvs:List (Str × Addr)}
theorem pe_getT (T:TopD X.prog X.w X.K F kvs) (ho:PE X o td) (he:PE X e ty) (hf:PE X f tx) (m:M2 X o "get" apos e f cpos) :
  PE X (.Call (.Attribute o "get" apos) [e,f] [] cpos) (fun σ H Q=>td σ H fun x H1=>x=.ref F/\ty σ H1 fun y H2=>tx σ H2 fun z H3=>∃ k,y=.str k/\Q (((lookT kvs k).map V.ref).getD z) H3):=by
 intro pins s σ H Q I h
 refine wpAny_Call_method m.base m.few m.line PySem.F.plainAttrs_dict PySem.F.slot_dict_get PySem.F.type_dict_get (thn (ho pins s σ H _ I h) fun u s1 ⟨x,H1,I1,rx,ex,q1⟩=>?_)
 subst ex
 obtain rfl:u=Value.ref F:=rx
 have d1:=T.at I1
 refine ⟨d1.typeIs,fun b q=>?_,?_⟩
 ·cases q
  obtain ⟨ob,_,_,h1,h2,_⟩:=d1
  exact ⟨ob,h1,h2.2.1⟩
 ·rw [m.trees]
  refine Calls.callWith_builtin rfl (Calls.evalArgs_plain (Calls.spliced_cons (thn (he pins s1 σ H1 _ I1 q1) fun iv s2 ⟨y,H2,I2,ry,q2⟩=>Calls.spliced_cons (thn (hf pins s2 σ H2 _ I2 q2) fun fv s3 ⟨z,H3,I3,rz,k,ey,q3⟩=>Calls.spliced_nil ?_))))
  subst ey
  have d3:=T.at I3
  refine call_meetsIn PySem.F.slot_dict_get d3.typeIs PySem.F.entry_dict_get (PySem.F.args_dict_get_3 _ _ _) (meets_dict_get_default (mixKind X.prog X.w) F (kV_is (k:=Sum.inr k) ry) T.2 fv) ⟨_,d3.mapOf,⟨_,H3,I3.tok _,?_,q3⟩⟩
  rw [valueAt_T]
  cases lookT kvs k with
  | none=>exact rz
  | some c=>exact rfl
def fGetT (F:Addr) (kvs:List (Str × Addr)) (fo fe ff:FE):FE:=fun τ=>M.bind (fo τ) fun d=>match d with
 | .adr g=>if g=F then M.bind (fe τ) (fun k=>M.bind (ff τ) fun z=>match k with
  | .str x=>M.ret (((lookT kvs x).map PV.adr).getD z)
  | _=>M.bad) else M.bad
 | _=>M.bad
theorem e_getT (T:TopD X.prog X.w X.K F kvs) (ho:EOk tb X o fo) (he:EOk tb X e fe) (hf:EOk tb X f ff) (m:M2 X o "get" apos e f cpos:=by exact ⟨rfl,rfl,rfl,rfl⟩):EOk tb X (.Call (.Attribute o "get" apos) [e,f] [] cpos) (fGetT F kvs fo fe ff) :=
 PE.mono (pe_getT T ho he hf m) fun σ H Q ⟨ρ,vh,τ,st,S,p⟩=>⟨ρ,vh,τ,st,S,seqEE p fun vh1 ρ1 H1 v1 w1 p1 k1 S1 r1 q1=>by
  cases v1 with
  | adr g =>
   dsimp only at q1
   by_cases hg:g=F
   ·subst hg
    rw [if_pos rfl] at q1
    refine ⟨r1,ρ1,vh1,τ,st.mono p1 k1,S1,seqEE q1 fun vh2 ρ2 H2 v2 w2 p2 k2 S2 r2 q2=>⟨ρ2,vh2,τ,(st.mono p1 k1).mono p2 k2,S2,seqEE q2 fun vh3 ρ3 H3 v3 w3 p3 k3 S3 r3 q3=>?_⟩⟩
    cases v2 with
    | str x =>
     refine ⟨x,r2,?_⟩
     dsimp only at q3
     cases el:lookT kvs x with
     | none=>rw [el] at q3;exact Post.here q3 S3 r3
     | some c=>rw [el] at q3;exact Post.here q3 S3 rfl
    | _=>exact q3.elim
   ·rw [if_neg hg] at q1;exact q1.elim
  | _=>exact q1.elim⟩
end
end FS
namespace FS
open PySem PySem.Spec PyProof.Rows L2 FX
section
variable {tb:Tb} {X:Cx} {pos p:Pos} {e:Expr} {es:List Expr} {fs:FA}
def gLenT (gt:GTup):FF:=fun xs=>match xs with
 | [.adr c]=>match gt.lookup c with
  | some ys=>M.ret (.int ys.length)
  | none=>M.bad
 | xs=>gLen xs
theorem call_lenT {gt:GTup} (hgt:GtOk X.K gt):CallR X (.builtin "len") (rcOf tb X (gLenT gt)):=fun pins s σ H xs us Q I rs ⟨σ',ρ,vh,ys,hd,S,r,p⟩=>by
 match ys,r,p with
 | [],r,p=>exact call_lenF (tb:=tb) pins s σ H xs us Q I rs ⟨σ',ρ,vh,[],hd,S,r,p⟩
 | y :: z :: zs,r,p=>exact call_lenF (tb:=tb) pins s σ H xs us Q I rs ⟨σ',ρ,vh,y :: z :: zs,hd,S,r,by cases y <;> exact p⟩
 | [y],r,p =>
  cases y with
  | adr c =>
   obtain ⟨w,ws,rfl,r1,r2⟩:=r
   cases (show ws=[] from r2)
   simp only [gLenT] at p
   cases el:gt.lookup c with
   | none=>rw [el] at p;exact p.elim
   | some zs =>
    rw [el] at p
    obtain ⟨vs,h1,h2⟩:=hgt c zs el
    refine call_len_seq pins s σ H _ us Q I rs ⟨c,vs,by rw [show w=_ from r1],.inr (h1 H),?_⟩
    rw [(h2 ρ H).length];exact Post.here p S rfl
  | _=>exact call_lenF (tb:=tb) pins s σ H xs us Q I rs ⟨σ',ρ,vh,_,hd,S,r,p⟩
theorem e_lenT {gt:GTup} (hgt:GtOk X.K gt) (hg:Gl X "len") (hm:X.mg "len" = none) (ha:AOk tb X (e :: es) fs) (he:starEach (e :: es) X.env=(false,eval e X.env) :: starEach es X.env:=by rfl) (hpl:(backTo pos (starEach es X.env)).any (·.1)=false:=by rfl) :
  EOk tb X (.Call (.Name "len" p) (e :: es) [] pos) (fCB (gLenT gt) fs):=e_callB (call_lenT hgt) (cb_of _) hg hm (by first | rfl | decide +kernel) ha (by decide) (by decide) he hpl
end
end FS
namespace FS
open PySem PySem.Spec PyProof.Rows L2 FX
section
variable {P:Program} {w:World} {A:Around} {E:Value->Shared->Prop} {s:Shared}
theorem ref_none {t:Addr}:¬ ((Value.ref t == Value.none)=true):=Bool.false_ne_true
theorem nx_tup {c t:Addr} {n:Nat} {us:Array Value} {v:Value} {R:Value->Shared->Prop} (st:IsTupIter s.heap c t n) (ht:IsTup s.heap t us) (hv:us[n]?=some v)
  (k:∀ g,IsTupIter g c t (n + 1)->Heap.SameBut c s.heap g->R v { s with heap:=g }):wpAny (model P w) A (Builtin.SmallTypes.nextOf (.ref c)) R E s:=by
 obtain ⟨ob,e1,e2,e3⟩:=id st
 obtain ⟨tb,f1,_,m,f3⟩:=ht
 unfold Builtin.SmallTypes.nextOf
 refine wpAny_bind (wpAny_callSpecial?_slot (name:=Str.ofString "__next__") st.typeIs slot_tupleiter_next (wpAny_call_entry slot_tupleiter_next st.typeIs entry_tupleiter_next ?_ (args_tupleiter_next _)))
 show wpAny _ _ (field (.ref c) 0 >>= _) _ _ s
 refine wpAny_bind (wpAny_field e1 e3 (x:=.ref t) rfl ?_)
 show wpAny _ _ (if (Value.ref t == Value.none)=true then _ else _) _ _ s;rw [if_neg ref_none]
 show wpAny _ _ (field (.ref c) 1 >>= _) _ _ s
 refine wpAny_bind (wpAny_field e1 e3 (x:=.int n 0) rfl ?_)
 show wpAny _ _ (seqItems? (.ref t) >>= _) _ _ s;refine wpAny_bind (wpAny_seqItems f1 f3 ?_)
 simp only [Int.toNat_natCast,hv]
 refine wpAny_bind (wpAny_setField e1 e3 (by simp) (wpAny_pure ⟨v,rfl,wpAny_pure (k _ ⟨_,Heap.get?_update_self _ e1 (Obj.isFreed_of_fields (Obj.data_mapFields e3 _)),(Obj.cls_mapFields ..).trans e2,?_⟩ (Heap.SameBut.update ..))⟩))
 rw [Obj.data_mapFields e3];simp [rawInt]
theorem nx_tup_end {c t:Addr} {n:Nat} {us:Array Value} {R:Value->Shared->Prop} (hd:A.handled=none) (st:IsTupIter s.heap c t n) (ht:IsTup s.heap t us) (hv:us[n]?=none)
  (k:∀ g x,Heap.ExtBut c s.heap g->(∃ o,g.get? x=some o/\o.cls=.type "StopIteration")->E (.ref x) { s with heap:=g }):wpAny (model P w) A (Builtin.SmallTypes.nextOf (.ref c)) R E s:=by
 obtain ⟨ob,e1,e2,e3⟩:=id st
 obtain ⟨tb,f1,_,m,f3⟩:=ht
 unfold Builtin.SmallTypes.nextOf
 refine wpAny_bind (wpAny_callSpecial?_slot (name:=Str.ofString "__next__") st.typeIs slot_tupleiter_next (wpAny_call_entry slot_tupleiter_next st.typeIs entry_tupleiter_next ?_ (args_tupleiter_next _)))
 show wpAny _ _ (field (.ref c) 0 >>= _) _ _ s
 refine wpAny_bind (wpAny_field e1 e3 (x:=.ref t) rfl ?_)
 show wpAny _ _ (if (Value.ref t == Value.none)=true then _ else _) _ _ s;rw [if_neg ref_none]
 show wpAny _ _ (field (.ref c) 1 >>= _) _ _ s
 refine wpAny_bind (wpAny_field e1 e3 (x:=.int n 0) rfl ?_)
 show wpAny _ _ (seqItems? (.ref t) >>= _) _ _ s;refine wpAny_bind (wpAny_seqItems f1 f3 ?_)
 simp only [Int.toNat_natCast,hv]
 refine wpAny_bind (wpAny_rule (wpAny_bind (wpAny_setField e1 e3 (by simp) ?_)))
 show wpAny _ _ (newExc (.type "StopIteration") [] >>= _) _ _ _;refine wpAny_bind ?_;simp only [newExc,newTuple]
 refine wpAny_bind (wpAny_newObj_type ?_ (by size_fits));refine wpAny_bind (m:=firstArgMember _ _) (wpAny_of_eq (a:=Value.none) (by first | rfl | (simp only [firstArgMember];rfl)) ?_)
 refine wpAny_newObj_type ?_ (by size_fits);simp only [raiseNew];refine wpAny_bind (wpAny_handled ?_)
 first | rw [show A.in1.handled=none from hd] | rw [hd]
 refine wpAny_bind (wpAny_pure (wpAny_throw (k _ _ (((Heap.SameBut.update ..).extBut.push _).push _) ⟨_,Heap.get?_push_size _ rfl,rfl⟩)))
structure ZAp (z a b c d:Addr):Prop where
 az:a ≠ z
 bz:b ≠ z
 cz:c ≠ z
 dz:d ≠ z
 ab:a ≠ b
 ac:a ≠ c
 ad:a ≠ d
 bc:b ≠ c
 bd:b ≠ d
 cd:c ≠ d
def ZAt (z a b c d l t:Addr) (n:Nat) (old:Value) (h:Heap):Prop:=IsZip h z a b old/\IsPair h a (.ref c) (.ref d)/\(∃ x y,IsPair h b x y)/\h.IsListIter c l n/\IsTupIter h d t n
theorem tupIter_ext {g g':Heap} {c b t:Addr} {n:Nat} (h:IsTupIter g c t n) (e:Heap.ExtBut b g g') (q:c ≠ b):IsTupIter g' c t n:=let ⟨o,e1,r⟩:=h;⟨o,e c o q e1,r⟩
theorem zip_go {z a b c d l t:Addr} {n:Nat} {xs ys:Array Value} {x y:Value} {R:Value->Shared->Prop} (D:ZAp z a b c d) (lz:l ≠ z/\l ≠ b/\l ≠ c/\l ≠ d) (tz:t ≠ z/\t ≠ b/\t ≠ c/\t ≠ d)
  (Z:ZAt z a b c d l t n .none s.heap) (hl:s.heap.IsList l xs) (ht:IsTup s.heap t ys) (hx:xs[n]?=some x) (hy:ys[n]?=some y)
  (k:∀ g,ZAt z a b c d l t (n + 1) (rawInt s.heap.objs.size) g->IsPair g s.heap.objs.size x y->(∀ e o,e ≠ z->e ≠ b->e ≠ c->e ≠ d->s.heap.get? e=some o->g.get? e=some o)->R (.ref s.heap.objs.size) { s with heap:=g }) :
  wpAny (model P w) A (Builtin.«zip.__next__» ⟨[.ref z],[]⟩) (fun fin s'=>∃ v,fin=.done (.ret v)/\R v s') E s:=by
 obtain ⟨gz,ga,⟨u,v,gb⟩,gc,gd⟩:=Z
 show wpAny _ _ (field (.ref z) 2 >>= _) _ _ _
 refine wpAny_bind (wpAny_field gz rfl (x:=.bool false) rfl ?_)
 show wpAny _ _ (field (.ref z) 3 >>= _) _ _ _
 refine wpAny_bind (wpAny_field gz rfl (x:=.ref a) rfl ?_)
 refine wpAny_bind (wpAny_seqItems ga rfl ?_)
 show wpAny _ _ (Builtin.SmallTypes.ownedTupleIsFree (.ref z) >>= _) _ _ _;refine wpAny_bind ?_
 unfold Builtin.SmallTypes.ownedTupleIsFree
 refine wpAny_bind (wpAny_field gz rfl (x:=.none) rfl (wpAny_pure ?_))
 simp only [if_true]
 refine wpAny_bind (wpAny_rule (wpAny_bind (wpAny_field gz rfl (x:=.ref b) rfl (wpAny_bind (wpAny_setField_rec gz (by simp) fun h1 z1 e1=>?_)))))
 replace z1:IsZip h1 z a b .ellipsis:=z1
 refine wpAny_bind ?_
 simp only [List.zipIdx_cons,List.zipIdx_nil,List.forIn_cons,List.forIn_nil]
 refine wpAny_bind (wpAny_bind (wpAny_onRaise ?_))
 show wpAny _ _ (Builtin.SmallTypes.nextOf (.ref c) >>= _) _ _ _
 refine wpAny_bind (wpAny_nextOf_list_item (gc.extBut e1.extBut D.cz) (hl.extBut e1.extBut lz.1) hx fun h2 c2 e2=>wpAny_pure ?_)
 have b2:IsPair h2 b u v:=e2.extBut _ _ D.bc (e1.extBut _ _ D.bz gb)
 refine wpAny_bind (wpAny_seqItems b2 rfl (wpAny_bind (wpAny_updateSeq_pair b2 fun h3 b3 e3=>wpAny_bind (wpAny_letGo (wpAny_pure ?_)))))
 replace b3:IsPair h3 b x v:=b3
 refine wpAny_bind (wpAny_bind (wpAny_onRaise ?_))
 show wpAny _ _ (Builtin.SmallTypes.nextOf (.ref d) >>= _) _ _ _
 have hz0:∀ e o,e ≠ z->e ≠ b->e ≠ c->s.heap.get? e=some o->h3.get? e=some o:=fun e o q1 q2 q3 w1=>e3.extBut _ _ q2 (e2.extBut _ _ q3 (e1.extBut _ _ q1 w1))
 have d3:IsTupIter h3 d t n:=let ⟨o,w1,r⟩:=gd;⟨o,hz0 _ _ D.dz D.bd.symm D.cd.symm w1,r⟩
 have t3:IsTup h3 t ys:=let ⟨o,w1,r⟩:=ht;⟨o,hz0 _ _ tz.1 tz.2.1 tz.2.2.1 w1,r⟩
 refine wpAny_bind (nx_tup d3 t3 hy fun h4 d4 e4=>wpAny_pure ?_)
 have b4:IsPair h4 b x v:=e4.extBut _ _ D.bd b3
 refine wpAny_bind (wpAny_seqItems b4 rfl (wpAny_bind (wpAny_updateSeq_pair b4 fun h5 b5 e5=>wpAny_bind (wpAny_letGo (wpAny_pure (wpAny_pure ?_))))))
 replace b5:IsPair h5 b x y:=b5
 refine wpAny_bind (wpAny_seqItems b5 rfl (wpAny_bind (wpAny_newTuple ?_)))
 have sz:h5.objs.size=s.heap.objs.size:=by rw [e5.1,e4.1,e3.1,e2.1,e1.1]
 have z5:IsZip h5 z a b .ellipsis:=e5.extBut _ _ D.bz.symm (e4.extBut _ _ D.dz.symm (e3.extBut _ _ D.bz.symm (e2.extBut _ _ D.cz.symm z1)))
 have k5:∀ e o,e ≠ z->e ≠ b->e ≠ c->e ≠ d->s.heap.get? e=some o->h5.get? e=some o:=fun e o q1 q2 q3 q4 w1=>e5.extBut _ _ q2 (e4.extBut _ _ q4 (hz0 e o q1 q2 q3 w1))
 have c5:h5.IsListIter c l (n + 1):=((c2.extBut e3.extBut D.bc.symm).extBut e4.extBut D.cd).extBut e5.extBut D.bc.symm
 have d5:IsTupIter h5 d t (n + 1):=tupIter_ext d4 e5.extBut D.bd.symm
 have zl:z < h5.objs.size:=Heap.lt_size z5
 show wpAny _ _ (Builtin.SmallTypes.ownedTupleHandOut (.ref z) (.ref h5.objs.size) >>= _) _ _ _;refine wpAny_bind ?_
 unfold Builtin.SmallTypes.ownedTupleHandOut
 have z6:IsZip (h5.push { cls:=.type "tuple",data:=.seq #[x,y] }) z a b .ellipsis:=Heap.get?_push_of_some _ z5
 refine wpAny_bind (wpAny_setField_rec z6 (by simp) fun h7 z7 e7=>?_)
 replace z7:IsZip h7 z a b (rawInt h5.objs.size):=z7
 refine wpAny_setField_rec z7 (by simp) fun h8 z8 e8=>?_
 replace z8:IsZip h8 z a b (rawInt h5.objs.size):=z8
 have up:∀ e o,e ≠ z->h5.get? e=some o->h8.get? e=some o:=fun e o q w1=>e8.extBut _ _ q (e7.extBut _ _ q (Heap.get?_push_of_some _ w1))
 have p8:IsPair h8 h5.objs.size x y:=e8.extBut _ _ (Nat.ne_of_gt zl) (e7.extBut _ _ (Nat.ne_of_gt zl) (Heap.get?_push_size _ rfl))
 rw [sz] at z8 p8
 refine wpAny_pure ⟨_,rfl,?_⟩
 show R (.ref h5.objs.size) _
 rw [sz]
 refine k h8 ⟨z8,up _ _ D.az (k5 _ _ D.az D.ab D.ac D.ad ga),⟨_,_,up _ _ D.bz b5⟩,?_,?_⟩ p8 fun e o q1 q2 q3 q4 w1=>up e o q1 (k5 e o q1 q2 q3 q4 w1)
 ·exact c5.at fun o w1=>up _ o D.cz w1
 ·obtain ⟨o,w1,r⟩:=d5;exact ⟨o,up _ o D.dz w1,r⟩
theorem zip_stop {z a b c d l t:Addr} {n:Nat} {xs ys:Array Value} {R:Fin->Shared->Prop} (hd:A.handled=none) (D:ZAp z a b c d) (lz:l ≠ z/\l ≠ b/\l ≠ c/\l ≠ d) (tz:t ≠ z/\t ≠ b/\t ≠ c/\t ≠ d)
  (Z:ZAt z a b c d l t n .none s.heap) (hl:s.heap.IsList l xs) (ht:IsTup s.heap t ys) (hx:xs[n]?=none\/ys[n]?=none)
  (k:∀ g e,(∀ e o,e ≠ z->e ≠ b->e ≠ c->e ≠ d->s.heap.get? e=some o->g.get? e=some o)->(∃ o,g.get? e=some o/\o.cls=.type "StopIteration")->E (.ref e) { s with heap:=g }) :
  wpAny (model P w) A (Builtin.«zip.__next__» ⟨[.ref z],[]⟩) R E s:=by
 obtain ⟨gz,ga,⟨u,v,gb⟩,gc,gd⟩:=Z
 show wpAny _ _ (field (.ref z) 2 >>= _) _ _ _
 refine wpAny_bind (wpAny_field gz rfl (x:=.bool false) rfl ?_)
 show wpAny _ _ (field (.ref z) 3 >>= _) _ _ _
 refine wpAny_bind (wpAny_field gz rfl (x:=.ref a) rfl ?_)
 refine wpAny_bind (wpAny_seqItems ga rfl ?_)
 show wpAny _ _ (Builtin.SmallTypes.ownedTupleIsFree (.ref z) >>= _) _ _ _;refine wpAny_bind ?_
 unfold Builtin.SmallTypes.ownedTupleIsFree
 refine wpAny_bind (wpAny_field gz rfl (x:=.none) rfl (wpAny_pure ?_))
 simp only [if_true]
 refine wpAny_bind (wpAny_rule (wpAny_bind (wpAny_field gz rfl (x:=.ref b) rfl (wpAny_bind (wpAny_setField_rec gz (by simp) fun h1 z1 e1=>?_)))))
 replace z1:IsZip h1 z a b .ellipsis:=z1
 refine wpAny_bind ?_
 simp only [List.zipIdx_cons,List.zipIdx_nil,List.forIn_cons,List.forIn_nil]
 refine wpAny_bind (wpAny_bind (wpAny_onRaise ?_))
 show wpAny _ _ (Builtin.SmallTypes.nextOf (.ref c) >>= _) _ _ _
 cases ex:xs[n]? with
 | none =>
  refine wpAny_bind (wpAny_nextOf_list_end hd (gc.extBut e1.extBut D.cz) (hl.extBut e1.extBut lz.1) ex fun h2 e e2 q=>?_)
  obtain ⟨oe,w1,w2⟩:=q
  have z2:IsZip h2 z a b .ellipsis:=e2 _ _ D.cz.symm z1
  have ez:e ≠ z:=fun q=>by subst q;rw [z2] at w1;cases w1;simp at w2
  exact wpAny_setField_rec z2 (by simp) fun h3 _ e3=>k h3 e (fun e o q1 _ q3 _ w1=>e3.extBut _ _ q1 (e2 _ _ q3 (e1.extBut _ _ q1 w1))) ⟨oe,e3.extBut _ _ ez w1,w2⟩
 | some x =>
  have ey:ys[n]?=none:=by rcases hx with q | q;rw [ex] at q;cases q;exact q
  refine wpAny_bind (wpAny_nextOf_list_item (gc.extBut e1.extBut D.cz) (hl.extBut e1.extBut lz.1) ex fun h2 c2 e2=>wpAny_pure ?_)
  have b2:IsPair h2 b u v:=e2.extBut _ _ D.bc (e1.extBut _ _ D.bz gb)
  refine wpAny_bind (wpAny_seqItems b2 rfl (wpAny_bind (wpAny_updateSeq_pair b2 fun h3 b3 e3=>wpAny_bind (wpAny_letGo (wpAny_pure ?_)))))
  refine wpAny_bind (wpAny_bind (wpAny_onRaise ?_))
  show wpAny _ _ (Builtin.SmallTypes.nextOf (.ref d) >>= _) _ _ _
  have hz0:∀ e o,e ≠ z->e ≠ b->e ≠ c->s.heap.get? e=some o->h3.get? e=some o:=fun e o q1 q2 q3 w1=>e3.extBut _ _ q2 (e2.extBut _ _ q3 (e1.extBut _ _ q1 w1))
  have d3:IsTupIter h3 d t n:=let ⟨o,w1,r⟩:=gd;⟨o,hz0 _ _ D.dz D.bd.symm D.cd.symm w1,r⟩
  have t3:IsTup h3 t ys:=let ⟨o,w1,r⟩:=ht;⟨o,hz0 _ _ tz.1 tz.2.1 tz.2.2.1 w1,r⟩
  refine wpAny_bind (nx_tup_end hd d3 t3 ey fun h4 e e4 q=>?_)
  obtain ⟨oe,w1,w2⟩:=q
  have z4:IsZip h4 z a b .ellipsis:=e4 _ _ D.dz.symm (e3.extBut _ _ D.bz.symm (e2.extBut _ _ D.cz.symm z1))
  have ez:e ≠ z:=fun q=>by subst q;rw [z4] at w1;cases w1;simp at w2
  exact wpAny_setField_rec z4 (by simp) fun h5 _ e5=>k h5 e (fun e o q1 q2 q3 q4 w1=>e5.extBut _ _ q1 (e4 _ _ q4 (hz0 e o q1 q2 q3 w1))) ⟨oe,e5.extBut _ _ ez w1,w2⟩
theorem zip_pyNext {z a b c d l t:Addr} {n:Nat} {xs ys:Array Value} {x y:Value} {R:Option Value->Shared->Prop} (D:ZAp z a b c d) (lz:l ≠ z/\l ≠ b/\l ≠ c/\l ≠ d) (tz:t ≠ z/\t ≠ b/\t ≠ c/\t ≠ d)
  (Z:ZAt z a b c d l t n .none s.heap) (hl:s.heap.IsList l xs) (ht:IsTup s.heap t ys) (hx:xs[n]?=some x) (hy:ys[n]?=some y)
  (k:∀ g,ZAt z a b c d l t (n + 1) (rawInt s.heap.objs.size) g->IsPair g s.heap.objs.size x y->(∀ e o,e ≠ z->e ≠ b->e ≠ c->e ≠ d->s.heap.get? e=some o->g.get? e=some o)->R (some (.ref s.heap.objs.size)) { s with heap:=g }) :
  wpAny (model P w) A (pyNext (.ref z)) R E s:=by
 have T:s.TypeIs (.ref z) "zip" := ⟨_,Z.1,rfl⟩
 unfold pyNext
 exact wpAny_bind (wpAny_attempt (wpAny_callSpecial?_slot (name:=Str.ofString "__next__") T F.slot_zip_next (wpAny_call_entry F.slot_zip_next T F.entry_zip_next (zip_go D lz tz Z hl ht hx hy fun g q1 q2 q3=>wpAny_pure (k g q1 q2 q3)) (F.args_zip_next_1 _))))
theorem zip_pyEnd {z a b c d l t:Addr} {n:Nat} {xs ys:Array Value} {R:Option Value->Shared->Prop} (hd:A.handled=none) (D:ZAp z a b c d) (lz:l ≠ z/\l ≠ b/\l ≠ c/\l ≠ d) (tz:t ≠ z/\t ≠ b/\t ≠ c/\t ≠ d)
  (Z:ZAt z a b c d l t n .none s.heap) (hl:s.heap.IsList l xs) (ht:IsTup s.heap t ys) (hx:xs[n]?=none\/ys[n]?=none)
  (k:∀ g,(∀ e o,e ≠ z->e ≠ b->e ≠ c->e ≠ d->s.heap.get? e=some o->g.get? e=some o)->R none { s with heap:=g }):wpAny (model P w) A (pyNext (.ref z)) R E s:=by
 have T:s.TypeIs (.ref z) "zip" := ⟨_,Z.1,rfl⟩
 unfold pyNext
 refine wpAny_bind (wpAny_attempt (wpAny_callSpecial?_slot (name:=Str.ofString "__next__") T F.slot_zip_next (wpAny_call_entry F.slot_zip_next T F.entry_zip_next (zip_stop hd D lz tz Z hl ht hx fun g e kp q=>?_) (F.args_zip_next_1 _))))
 obtain ⟨o,w1,w2⟩:=q
 exact wpAny_bind (wpAny_isInstance (T:="StopIteration") (b:=true) ⟨o,w1,w2⟩ isSubtype_stop (wpAny_pure (k _ kp)))
abbrev zh1 (h:Heap) (l:Addr):Heap:=h.push { cls:=.type "list_iterator",data:=.fields #[.ref l,.int 0 0] }
abbrev zh2 (h:Heap) (l t:Addr):Heap:=(zh1 h l).push { cls:=.type "tuple_iterator",data:=.fields #[.ref t,.int 0 0] }
abbrev zh3 (h:Heap) (l t:Addr):Heap:=(zh2 h l t).push { cls:=.type "tuple",data:=.seq #[.ref h.objs.size,.ref (zh1 h l).objs.size] }
abbrev zh4 (h:Heap) (l t:Addr):Heap:=(zh3 h l t).push { cls:=.type "tuple",data:=.seq #[.none,.none] }
abbrev zh5 (h:Heap) (l t:Addr):Heap:=(zh4 h l t).push { cls:=.type "zip",data:=.fields #[.none,.bool false,.bool false,.ref (zh2 h l t).objs.size,.ref (zh3 h l t).objs.size] }
theorem zip_new (l t:Addr) (xs ys:Array Value):Meets (Builtin.«zip.__new__» ⟨[.type "zip",.ref l,.ref t],[]⟩) (fun _ R s=>s.heap.IsList l xs/\IsTup s.heap t ys/\R (.ok (.ret (.ref (zh4 s.heap l t).objs.size))) { s with heap:=zh5 s.heap l t }) :=
 .of_wp fun prog w A R s h=>by
  obtain ⟨hp,g,d,tk,os⟩:=s
  obtain ⟨h1,h2,h⟩:=h
  have hsub:=sub_zip
  have q1:Heap.IsList (Shared.heap ⟨hp,g,d,tk,os⟩) l xs:=h1
  have q2:IsTup (Shared.heap ⟨zh1 hp l,g,d,tk,os⟩) t ys:=IsTup.push h2 _
  wp_walk using wpAny_pyIter_list q1,iter_tuple q2
  exact ⟨_,rfl,h⟩
theorem zip_call {l t:Addr} {xs ys:Array Value} {R:Value->Shared->Prop} (hl:s.heap.IsList l xs) (ht:IsTup s.heap t ys)
  (k:∀ g,ZAt (s.heap.objs.size + 4) (s.heap.objs.size + 2) (s.heap.objs.size + 3) s.heap.objs.size (s.heap.objs.size + 1) l t 0 .none g->(∀ c o,s.heap.get? c=some o->g.get? c=some o)->R (.ref (s.heap.objs.size + 4)) { s with heap:=g }) :
  wpAny (model P w) A (call (.type "zip") [.ref l,.ref t]) R E s:=by
 refine callType_new F.called_zip (by decide) (F.typeCall_zip_2 _ _) (F.newCall_zip_2 _ _) (fun obj=>F.args_object_init_3 obj _ _) F.entry_zip_new (zip_new l t xs ys) ⟨hl,ht,?_⟩
 have n1:(zh1 s.heap l).objs.size=s.heap.objs.size + 1:=Heap.size_push ..
 have n2:(zh2 s.heap l t).objs.size=s.heap.objs.size + 2:=by rw [Heap.size_push,n1]
 have n3:(zh3 s.heap l t).objs.size=s.heap.objs.size + 3:=by rw [Heap.size_push,n2]
 have n4:(zh4 s.heap l t).objs.size=s.heap.objs.size + 4:=by rw [Heap.size_push,n3]
 have up:∀ {h:Heap} {o v:Obj} {e:Addr},h.get? e=some o->(h.push v).get? e=some o:=fun q=>Heap.get?_push_of_some _ q
 have g5:(zh5 s.heap l t).get? (zh4 s.heap l t).objs.size=some _:=Heap.get?_push_size _ rfl
 have g4:(zh5 s.heap l t).get? (zh3 s.heap l t).objs.size=some _:=up (Heap.get?_push_size _ rfl)
 have g3:(zh5 s.heap l t).get? (zh2 s.heap l t).objs.size=some _:=up (up (Heap.get?_push_size _ rfl))
 have g2:(zh5 s.heap l t).get? (zh1 s.heap l).objs.size=some _:=up (up (up (Heap.get?_push_size _ rfl)))
 have g1:(zh5 s.heap l t).get? s.heap.objs.size=some _:=up (up (up (up (Heap.get?_push_size _ rfl))))
 show _/\_
 rw [n2,n3,n4] at g5
 rw [n1,n2] at g3
 rw [n3] at g4
 rw [n1] at g2
 rw [n4]
 exact ⟨⟨_,g5,rfl⟩,k _ ⟨g5,g3,⟨_,_,g4⟩,⟨_,g1,rfl,rfl⟩,⟨_,g2,rfl,rfl⟩⟩ fun c o q=>up (up (up (up (up q))))⟩
end
end FS
namespace FS
open PySem PySem.Spec PyProof.Rows L2 FX
section
variable {X:Cx} {pins:List (Addr × Obj)} {σ:St} {H:Hp} {s:Shared} {h':Heap}
theorem inv_turnedN {t':Nat} {fp:List Addr} (I:Inv X pins σ H s) (k:∀ b o,b ∉ fp->s.heap.get? b=some o->h'.get? b=some o) (f:∀ b ∈ fp,FpOk X pins H b):Inv X pins σ H { s with heap:=h',toks:=t' }:=by
 have nf:∀ b u,H b=some u->b ∉ fp:=fun b u e z=>by rw [(f b z).1] at e;cases e
 refine I.step (g':=s.gens) (d':=s.drawn) (ch:=fp) (fun b hb=>⟨(f b hb).2.2.2.1,(f b hb).2.1,(f b hb).2.2.2.2.1,(f b hb).2.2.2.2.2⟩) (fun b o _ _ hc e _=>k b o hc e) (fun b o _ _ hc e _=>⟨o.slots,k b o hc e⟩) (fun _ _ _ _ n=>n)
  (fun b o hc e=>⟨o,k b o hc e⟩) (fun _ _ e=>e) (fun _ _ _ e=>e) (fun b ps e=>⟨#[],by rw [e];simp⟩) (fun m hm=>?_) (fun b u e=>?_) I.bare
 ·obtain ⟨o,es,ep,ho,r⟩:=hm
  exact ⟨o,es,ep,k _ o (fun z=>(f _ z).2.1 rfl) ho,r⟩
 ·refine (I.hok b u e).stay (fun c v hc q=>k c v ?_ q) (fun _ q=>q) fun _ _ q=>q
  rcases hc with z | z
  ·rw [z];exact nf b u e
  ·exact nf c _ z
end
def Itz (K : PySem.W.Frag) (l t : Addr) : It :=
  ⟨fun i H => ∃ xs ys x y, SqL K H l xs/\SqT K H t ys/\xs[i]? = some x/\ys[i]? = some y,
   fun i H v H' => ∃ x y p, H p = none/\v = .ref p/\H' = upd H p (.tup [x, y])/\(∀ xs, SqL K H l xs->xs[i]? = some x)/\∀ ys, SqT K H t ys->ys[i]? = some y,
   fun i H => ∃ xs ys, SqL K H l xs/\SqT K H t ys/\(xs.length<=i\/ys.length<=i)⟩
theorem turn_zip {P:Program} {w:World} {K:PySem.W.Frag} {elts:List Expr} {x1} {tp:Pos} {z a b c d l t:Addr} (D:ZAp z a b c d) (lz:l ≠ z/\l ≠ b/\l ≠ c/\l ≠ d) (tz:t ≠ z/\t ≠ b/\t ≠ c/\t ≠ d) :
  Turn P w K (.Tuple elts x1 tp) (Itz K l t) [z,a,b,c,d] z (fun i h=>ZAt z a b c d l t i .none h) where
 mem:=by simp
 obj:=fun i h ⟨e1,e2,⟨u,v,e3⟩,⟨o4,e4,_,d4⟩,⟨o5,e5,_,d5⟩⟩ q hq=>by
  simp only [List.mem_cons,List.not_mem_nil,or_false] at hq
  rcases hq with rfl | rfl | rfl | rfl | rfl
  ·exact ⟨_,e1,fun v q=>by cases q⟩
  ·exact ⟨_,e2,fun v q=>by cases q⟩
  ·exact ⟨_,e3,fun v q=>by cases q⟩
  ·exact ⟨_,e4,fun v q=>by rw [d4] at q;cases q⟩
  ·exact ⟨_,e5,fun v q=>by rw [d5] at q;cases q⟩
 keep:=fun i h h' ⟨e1,e2,⟨u,v,e3⟩,⟨o4,e4,r4⟩,⟨o5,e5,r5⟩⟩ k =>
  ⟨k z (by simp) _ e1,k a (by simp) _ e2,⟨u,v,k b (by simp) _ e3⟩,⟨o4,k c (by simp) _ e4,r4⟩,⟨o5,k d (by simp) _ e5,r5⟩⟩
 item:=by
  intro X hP hw hK hc i pins s σ H E I hf st hg
  subst hP hw hK
  obtain ⟨xs,ys,x,y,q1,q2,hx,hy⟩:=hg
  obtain ⟨its,rv,pl,hz⟩:=I.list q1
  obtain ⟨jts,rw',tl,hz'⟩:=I.tuple q2
  obtain ⟨u,hu,ru⟩:=rv.get hx
  obtain ⟨v,hv,rv'⟩:=rw'.get hy
  refine zip_pyNext D lz tz st pl.isList tl (x:=u) (y:=v) (by simpa using hu) (by simpa using hv) fun g Z ht kp=>⟨_,rfl,wpAny_letOwnedTupleGo_zip (s:={ s with heap:=g }) Z.1 fun g2 z2 sb=>?_⟩
  obtain ⟨_,e2,⟨u',v',e3⟩,e4,e5⟩:=Z
  have nz:∀ q ∈ [z,a,b,c,d],q ≠ s.heap.objs.size:=fun q hq=>by
   obtain ⟨o,ho,_⟩:∃ o,s.heap.get? q=some o/\True:=by
    obtain ⟨w1,w2,⟨_,_,w3⟩,⟨o4,w4,_⟩,⟨o5,w5,_⟩⟩:=st
    simp only [List.mem_cons,List.not_mem_nil,or_false] at hq
    rcases hq with rfl | rfl | rfl | rfl | rfl
    ·exact ⟨_,w1,trivial⟩
    ·exact ⟨_,w2,trivial⟩
    ·exact ⟨_,w3,trivial⟩
    ·exact ⟨_,w4,trivial⟩
    ·exact ⟨_,w5,trivial⟩
   exact Nat.ne_of_lt (Heap.lt_size ho)
  have I1:Inv X pins σ H { s with heap:=g2,toks:=s.toks }:=inv_turnedN (fp:=[z,a,b,c,d]) I (fun q o n e=>by
   simp only [List.mem_cons,List.not_mem_nil,or_false,not_or] at n
   exact (sb.2 q n.1).trans (kp q o n.1 n.2.2.1 n.2.2.2.1 n.2.2.2.2 e)) hf
  have fo:FpOk X pins H s.heap.objs.size:=I.fpOk (Nat.le_refl _) (I.hok.fresh (Nat.le_refl _))
  have zs:=nz z (by simp)
  have ht2:g2.get? s.heap.objs.size=some { cls:=.type "tuple",data:=.seq #[u,v] }:=(sb.2 _ (Ne.symm zs)).trans ht
  have I2:=inv_track (v:=.tup [x,y]) I1 fo (Heap.get?_none_of_le I.sz) ⟨by show 2<=sizeLine;decide,[u,v],.cons ru (.cons rv' .nil),_,ht2,rfl,0,rfl⟩
  refine ⟨.ref s.heap.objs.size,_,I2,rfl,⟨x,y,s.heap.objs.size,fo.1,rfl,rfl,fun zs hq=>by rw [I.list_inj hq q1];exact hx,fun zs hq=>by rw [I.tuple_inj hq q2];exact hy⟩,⟨z2,(sb.2 _ D.az).trans e2,⟨u',v',(sb.2 _ D.bz).trans e3⟩,?_,?_⟩,fun q hq=>?_⟩
  ·obtain ⟨o,e,r⟩:=e4
   exact ⟨o,(sb.2 _ D.cz).trans e,r⟩
  ·obtain ⟨o,e,r⟩:=e5
   exact ⟨o,(sb.2 _ D.dz).trans e,r⟩
  ·rw [upd_ne (nz q hq)];exact (hf q hq).1
 done:=by
  intro X hP hw hK hc i pins s σ H E I hf st hg
  subst hP hw hK
  obtain ⟨xs,ys,q1,q2,hx⟩:=hg
  obtain ⟨its,rv,pl,hz⟩:=I.list q1
  obtain ⟨jts,rw',tl,hz'⟩:=I.tuple q2
  have l1:=rv.length
  have l2:=rw'.length
  refine zip_pyEnd (I.ok.hd hc) D lz tz st pl.isList tl (by rcases hx with h | h;exact .inl (by simp;omega);exact .inr (by simp;omega)) fun g kp=>⟨rfl,?_⟩
  exact inv_turnedN (t':=s.toks) (fp:=[z,a,b,c,d]) I (fun q o n e=>by
   simp only [List.mem_cons,List.not_mem_nil,or_false,not_or] at n
   exact kp q o n.1 n.2.2.1 n.2.2.2.1 n.2.2.2.2 e) hf
 self:=fun A i s Q E st q=>wpAny_pyIter_zip st.1 q
section
variable {tb:Tb} {X:Cx} {pos p:Pos} {e f:Expr}
def iZip (K:PySem.W.Frag) (tl tt:TE):TI:=fun σ H R=>tl σ H fun v H1=>tt σ H1 fun u H2=>∃ a t,v=.ref a/\u=.ref t/\(∃ xs,SqL K H2 a xs)/\(∃ ys,SqT K H2 t ys)/\R (Itz K a t) H2
theorem pi_zip {elts : List Expr} {x1} {tp : Pos} {tl tt : TE} (hg : Gl X "zip") (hm : X.mg "zip" = none) (hl : PE X e tl) (ht : PE X f tt) (m1 : ∀ σ H (Q Q' : VK), (∀ v H, Q v H->Q' v H)->tl σ H Q->tl σ H Q') (m2 : ∀ σ H (Q Q' : VK), (∀ v H, Q v H->Q' v H)->tt σ H Q->tt σ H Q')
    (hs1 : starEach [f] X.env = [(false, eval f X.env)] := by rfl) (hs : starEach [e, f] X.env = [(false, eval e X.env), (false, eval f X.env)] := by rfl) : PI X (.Tuple elts x1 tp) (.Call (.Name "zip" p) [e, f] [] pos) (iZip X.K tl tt) := by
  intro pins s σ H R I h
  refine Call_ (ld_blt I hg hm boot_zip (PyProof.Rows.callWith_type1 (thn ((pa_cons hl (pa_cons ht pa_nil (by rw [hs1]; rfl)) (by rw [hs, hs1])) pos pins s σ H (fun vs H1 => ∃ v u, vs = [v, u]/\∃ a t, v = .ref a/\u = .ref t/\(∃ xs, SqL X.K H1 a xs)/\(∃ ys, SqT X.K H1 t ys)/\R (Itz X.K a t) H1) I ?_) fun us s1 ⟨vs, H1, I1, r1, q1⟩ => ?_) (by rw [hs, hs1]) (by rw [hs1]; rfl)))
  · exact m1 σ H _ _ (fun v H1 h1 => m2 σ H1 _ _ (fun u H2 h2 => ⟨v, u, rfl, h2⟩) h1) h
  obtain ⟨v, u, rfl, a, t, rfl, rfl, ⟨xs, ha⟩, ⟨ys, hb⟩, q⟩ := q1
  cases r1 with
  | cons ra rr => cases rr with
    | cons rb rc =>
      cases rc
      cases ra
      cases rb
      obtain ⟨its, rv, pl, hz⟩ := I1.list ha
      obtain ⟨jts, rw', tl', hz'⟩ := I1.tuple hb
      have la : a < s1.heap.objs.size := by obtain ⟨_, e1, _⟩ := pl.isList; exact Heap.lt_size e1
      have lt : t < s1.heap.objs.size := by obtain ⟨_, e1, _⟩ := tl'; exact Heap.lt_size e1
      refine zip_call pl.isList tl' fun g Z kp => wpAny_pyIter_zip Z.1 ?_
      refine ⟨s1.heap.objs.size + 4, [s1.heap.objs.size + 4, s1.heap.objs.size + 2, s1.heap.objs.size + 3, s1.heap.objs.size, s1.heap.objs.size + 1], _, _, H1, rfl, I1.kept (t' := s1.toks) kp, turn_zip (a := s1.heap.objs.size + 2) (b := s1.heap.objs.size + 3) (c := s1.heap.objs.size) (d := s1.heap.objs.size + 1) (l := a) (t := t) ⟨?_, ?_, ?_, ?_, ?_, ?_, ?_, ?_, ?_, ?_⟩ ⟨?_, ?_, ?_, ?_⟩ ⟨?_, ?_, ?_, ?_⟩, Z, fun q hq => ?_, q⟩
      all_goals first
        | (intro z; simp only [Addr] at *; omega)
        | (have hq' : s1.heap.objs.size<=q := by
            simp only [List.mem_cons, List.not_mem_nil, or_false] at hq
            rcases hq with rfl | rfl | rfl | rfl | rfl <;> simp only [Addr] at * <;> omega
           exact I1.fpOk hq' (I1.hok.fresh hq'))
def srcZ (l:Nat) (ys:List PV):Src:=fun i h=>match lsOf h l with
 | some xs=>some (match xs[i]? with
  | some x=>ys[i]?.map fun y=>.tup [x,y]
  | none=>none)
 | none=>none
theorem srcJ_zip {K:PySem.W.Frag} {l:Nat} {a t:Addr} {ys:List PV} {vs:List V} (ht:∀ H,SqT K H t vs) (hr:∀ ρ H,Reps ρ H ys vs):SrcJ tb (srcZ l ys) (Itz K a t) l a where
 stop:=fun i ρ vh H la S e=>by
  unfold srcZ at e
  cases el:lsOf vh l with
  | none=>rw [el] at e;cases e
  | some xs =>
   rw [el] at e
   dsimp only at e
   obtain ⟨ws,rr,rd⟩:=ls_rd S el la
   refine ⟨ws,vs,.inl rd,ht H,?_⟩
   rw [rr.length,(hr ρ H).length]
   cases ex:xs[i]? with
   | none=>exact .inl (List.getElem?_eq_none_iff.mp ex)
   | some x =>
    rw [ex] at e
    have e1:ys[i]?=none:=by simpa using e
    exact .inr (List.getElem?_eq_none_iff.mp e1)
 go:=fun i ρ vh H x la S e=>by
  unfold srcZ at e
  cases el:lsOf vh l with
  | none=>rw [el] at e;cases e
  | some xs =>
   rw [el] at e
   dsimp only at e
   obtain ⟨ws,rr,rd⟩:=ls_rd S el la
   cases ex:xs[i]? with
   | none=>rw [ex] at e;cases e
   | some x1 =>
    rw [ex] at e
    have e1:(ys[i]?.map fun y=>PV.tup [x1,y])=some x:=by simpa using e
    obtain ⟨y,hy,rfl⟩:=Option.map_eq_some_iff.mp e1
    obtain ⟨w,hw,rw'⟩:=rr.get ex
    obtain ⟨w2,hw2,rw2⟩:=(hr ρ H).get hy
    refine ⟨⟨ws,vs,w,w2,.inl rd,ht H,hw,hw2⟩,fun v H' hq=>?_⟩
    obtain ⟨z1,z2,pp,hpn,rfl,rfl,h1,h2⟩:=hq
    have g1:=h1 ws (.inl rd)
    have g2:=h2 vs (ht H)
    rw [hw] at g1
    rw [hw2] at g2
    cases g1
    cases g2
    have k1:Keep ρ ρ H (upd H pp (.tup [w,w2])):=Keep.new hpn
    exact ⟨k1,S.side hpn,pp,_,rfl,upd_same,_,_,rfl,rw'.mono List.prefix_rfl k1,_,_,rfl,rw2.mono List.prefix_rfl k1,rfl⟩
def fCompZ (gt:GTup) (m:Nat) (pr:List Nat) (fi fj:FE) (g:FG) (ft:FT) (fe:FE):FE:=fun τ=>M.bind (fi τ) fun v=>M.bind (fj τ) fun u=>match v with
 | .ref l=>match u with
  | .adr t=>match gt.lookup t with
   | some ys=>fun h=>match h[l]? with
    | some (.lst xs)=>match compF (srcZ l ys) g ft fe h.length (xs.length + 1) 0 (startC m pr τ) (h++[.lst []]) with
     | .ok _ h'=>.ok (.ref h.length) h'
     | _=>.bad
    | _=>.bad
   | none=>M.bad
  | _=>M.bad
 | _=>M.bad
theorem e_compZ {gt:GTup} (hgt:GtOk X.K gt) {elt a b:Expr} {elts:List Expr} {x1} {tp p1' p2' cpos:Pos} {ifs:List Expr} {scope:Scope} {cl:List (Str × Addr)} {own xs:List Str} {pr:List Nat} {fi fj:FE} {g:FG} {ft:FT} {fe:FE} (hc:X.calm=true) (hgl:Gl X "zip") (hm:X.mg "zip" = none)
  (hclos:closureFor scope X.env=pure cl) (hcl:AllC X.env.cells cl) (cap:CapOk X scope cl pr xs) (hi:EOk tb X a fi) (hj:EOk tb X b fj)
  (hg:InBlock X (own++xs) scope cl fun Y=>GOk tb Y (.Tuple elts x1 tp) g) (ht:InBlock X (own++xs) scope cl fun Y=>IfsOk tb Y ifs ft) (he:InBlock X (own++xs) scope cl fun Y=>EOk tb Y elt fe)
  (hk:scope.kind=.function:=by rfl) (hcell:∀ y ∈ scope.names,y.2 ≠ .cell:=by decide) (hfree:∀ y ∈ scope.names,y.2=.free->y.1 ∈ xs:=by decide)
  (hnames:∀ x ∈ scope.names,x.2=.local->scope.names.lookup x.1=some .local:=by decide) (hs:∀ x,foldedSetIterable (.Call (.Name "zip" p1') [a,b] [] p2') X.env x=pure x:=by intro _;rfl) (hst1:starEach [b] X.env=[(false,eval b X.env)]:=by rfl) (hst:starEach [a,b] X.env=[(false,eval a X.env),(false,eval b X.env)]:=by rfl) :
  EOk tb X (.ListComp elt [⟨.Tuple elts x1 tp,.Call (.Name "zip" p1') [a,b] [] p2',ifs,0⟩] scope cpos) (fCompZ gt own.length pr fi fj g ft fe):=by
 intro pins s σ H Q I ⟨ρ,vh,τ,st,S,p⟩
 rw [eval_ListComp]
 refine wpAny_comprehension_free (use:=none) rfl hs hclos hk hnames (wpAny_mono (pi_zip (elts:=elts) (x1:=x1) (tp:=tp) hgl hm hi hj tOf_mono tOf_mono hst1 hst pins s σ H (fun J H1=>∃ ρ1 vh1 l a t xs ys vs vE,ρ<+:ρ1/\Keep ρ ρ1 H H1/\Sim tb ρ1 vh1 H1/\J=Itz X.K a t/\ρ1[l]?=some a/\(∀ H,SqT X.K H t vs)/\(∀ ρ H,Reps ρ H ys vs) /\
  compF (srcZ l ys) g ft fe vh1.length (List.length (α:=PV) xs + 1) 0 (startC own.length pr τ) (vh1++[.lst []])=.ok () vE/\∀ ρ' H' w',ρ1<+:ρ'->Keep ρ1 ρ' H1 H'->Sim tb ρ' vE H'->Rep ρ' H' (.ref vh1.length) w'->Q w' H') I ⟨ρ,vh,τ,st,S,seqEE p fun vh1 ρ1 H1 v1 w1 p1 k1 S1 r1 q1=>⟨ρ1,vh1,τ,st.mono p1 k1,S1,seqEE q1 fun vh2 ρ2 H2 v2 w2 p2 k2 S2 r2 q2=>?_⟩⟩) (fun v s1 hv=>wpAny_mono hv (fun itv s2 q2=>?_) fun _ _ z=>z) fun _ _ z=>z)
 ·cases v1 with
  | ref l =>
   obtain ⟨a,la,rfl⟩:=Rep.mono p2 k2 r1
   cases v2 with
   | adr t =>
    dsimp only at q2
    cases eg:gt.lookup t with
    | none=>rw [eg] at q2;exact q2.elim
    | some ys =>
     rw [eg] at q2
     dsimp only at q2
     obtain ⟨vs,h1,h2⟩:=hgt t ys eg
     cases el:vh2[l]? with
     | none=>rw [el] at q2;exact q2.elim
     | some ob =>
      rw [el] at q2
      cases ob with
      | lst xs =>
       dsimp only at q2
       obtain ⟨ws,hv,rs⟩:=S2.obj l a _ la el
       cases e:compF (srcZ l ys) g ft fe vh2.length (xs.length + 1) 0 (startC own.length pr τ) (vh2++[.lst []]) with
       | ok z vE =>
        rw [e] at q2
        exact ⟨a,t,rfl,r2,⟨ws,SqL.of hv⟩,⟨vs,h1 H2⟩,ρ2,vh2,l,a,t,xs,ys,vs,vE,p1.trans p2,k1.trans k2,S2,rfl,la,h1,h2,e,q2⟩
       | exc _ _=>rw [e] at q2;exact q2.elim
       | bad=>rw [e] at q2;exact q2.elim
      | _=>exact q2.elim
   | _=>exact q2.elim
  | _=>exact q2.elim
 ·obtain ⟨it,fp,tn,J,H1,rfl,I1,T,tn0,hfp,ρ1,vh1,l,a,t,xs',ys,vs,vE,p1,k1,S1,rfl,la,h1,h2,e,hQ⟩:=q2
  exact comp_core (l:=l) hcl cap hg ht he hk hcell hfree I1 (st.mono p1 k1) S1 hfp (fun b hb=>let ⟨o,ho,_⟩:=T.obj 0 _ tn0 b hb;⟨o,ho⟩) tn0 (fun s3=>TurnX.of (Y:=cxC X (own++xs) scope cl s3 _ _) T hc) (fun D=>⟨a,pre_get (List.prefix_append _ _) la,srcJ_zip h1 h2⟩) e hQ
end
end FS
namespace FS
open PySem PySem.Spec PyProof.Rows L2 FX
section
variable {tb:Tb} {X:Cx}
def fBadE:FE:=fun _ _=>.bad
theorem e_bad {e:Expr}:EOk tb X e fBadE:=fun pins s σ H Q I ⟨_,_,_,_,_,p⟩=>p.elim
end
def txtsIn:List Value->Option (List Str)
 | []=>some []
 | .str x _ :: r=>match txtsIn r with
  | some xs=>some (x :: xs)
  | none=>none
 | _=>none
theorem txtsIn_vals:∀ {us:List Value} {xs:List Str},txtsIn us=some xs->Vals (xs.map V.str) us
 | [],xs,e=>by cases e;exact .nil
 | u :: r,xs,e=>by
  cases u with
  | str x t =>
   unfold txtsIn at e
   cases e1:txtsIn r with
   | none=>rw [e1] at e;cases e
   | some ys =>
    rw [e1] at e
    cases e
    exact .cons ⟨t,rfl⟩ (txtsIn_vals e1)
  | _=>unfold txtsIn at e;cases e
def tupIn (K:PySem.W.Frag) (a:Addr):Option (List Str):=match K.lookup a with
 | some ⟨.type n,_,.seq its _,_⟩=>if n == "tuple"/\its.size<=100 then txtsIn its.toList else none
 | _=>none
theorem tupIn_sq {K:PySem.W.Frag} {a:Addr} {xs:List Str} (h:tupIn K a=some xs) (H:Hp):SqT K H a (xs.map V.str):=by
 unfold tupIn at h
 split at h
 ·rename_i n od its m sl e
  split at h
  ·rename_i q
   have hn:n="tuple" := by simpa using q.1
   subst hn
   have:(100:Nat)<=sizeLine:=by decide
   exact .inr ⟨_,its,m,e,rfl,rfl,Nat.le_trans q.2 this,txtsIn_vals h⟩
  ·cases h
 ·cases h
theorem gt_of {K:PySem.W.Frag}:∀ {gs:List (Addr × List Str)},gs.map (fun r=>tupIn K r.1)=gs.map (fun r=>some r.2)->GtOk K (gs.map fun r=>(r.1,r.2.map PV.str))
 | [],_=>fun a xs e=>by cases e
 | r :: gs,h=>fun a xs e=>by
  rw [List.map_cons,List.map_cons] at h
  injection h with h1 h2
  rw [List.map_cons,List.lookup_cons] at e
  cases hb:a == r.1 with
  | false=>rw [hb] at e;exact gt_of h2 a xs e
  | true =>
   rw [hb] at e
   cases e
   have:a=r.1:=by simpa using hb
   subst this
   exact ⟨r.2.map V.str,fun H=>tupIn_sq h1 H,fun ρ H=>reps_texts _⟩
def entsIn:List DictEntry->Option (List (Int × Str × Addr))
 | []=>some []
 | ⟨h,.str x _,.ref a⟩ :: r=>match entsIn r with
  | some xs=>some ((h,x,a) :: xs)
  | none=>none
 | _=>none
def dctIn (K:PySem.W.Frag) (F:Addr):Option (List (Int × Str × Addr)):=match K.lookup F with
 | some ⟨.type n,none,.dict es _,sl⟩=>if n == "dict"/\sl.size=0 then entsIn es.toList else none
 | _=>none
theorem ents_of {P:Program} {w:World}:∀ {es:List DictEntry} {kvs:List (Str × Addr)},entsIn es=some (kvs.map fun p=>(PyData.keyHash w.params p.1,p.1,p.2)) ->
  PySem.Pairs (mixKind P w) es (pairsT kvs)/\∀ e ∈ es,∃ k,(mixKind P w).is k e.key=true/\e.hash=(mixKind P w).hash k
 | [],kvs,h=>by
  cases kvs with
  | nil=>exact ⟨.nil,fun e he=>nomatch he⟩
  | cons p r=>cases h
 | e :: es,kvs,h=>by
  obtain ⟨hh,key,val⟩:=e
  cases key with
  | str x t =>
   cases val with
   | ref a =>
    unfold entsIn at h
    cases e1:entsIn es with
    | none=>rw [e1] at h;cases h
    | some xs =>
     rw [e1] at h
     cases kvs with
     | nil=>cases h
     | cons p r =>
      rw [List.map_cons] at h
      injection h with h
      injection h with h2 h3
      injection h2 with h4 h5
      injection h5 with h6 h7
      subst h4 h6 h7
      obtain ⟨q1,q2⟩:=ents_of (P:=P) (w:=w) (kvs:=r) (by rw [e1,h3])
      refine ⟨.cons (kV_is (k:=Sum.inr p.1) ⟨t,rfl⟩) rfl q1,fun e he=>?_⟩
      rcases List.mem_cons.mp he with rfl | he
      ·exact ⟨Sum.inr p.1,kV_is (k:=Sum.inr p.1) ⟨t,rfl⟩,rfl⟩
      ·exact q2 e he
   | _=>unfold entsIn at h;cases h
  | _=>unfold entsIn at h;cases h
theorem topD_of {P:Program} {w:World} {K:PySem.W.Frag} {F:Addr} {kvs:List (Str × Addr)} (h:dctIn K F=some (kvs.map fun p=>(PyData.keyHash w.params p.1,p.1,p.2))) (hs:(F == sysModules)=false) (hn:((pairsT kvs).map (·.1)).Nodup):TopD P w K F kvs:=by
 refine ⟨?_,hs⟩
 unfold dctIn at h
 split at h
 ·rename_i n es m sl e
  split at h
  ·rename_i q
   have hq:n="dict" := by simpa using q.1
   subst hq
   have hl:sl=#[]:=Array.eq_empty_of_size_eq_zero q.2
   obtain ⟨q1,q2⟩:=ents_of (P:=P) (w:=w) h
   exact ⟨_,es,m,e,⟨rfl,rfl,hl⟩,rfl,fun x hx=>q2 x (Array.mem_toList_iff.mpr hx),q1,hn⟩
  ·cases h
 ·cases h
end FS
namespace FS
open PySem PySem.Spec PyProof.Rows L2 FX
@[irreducible] def QE (tb:Tb) (X:Cx) (e:Expr) (f:FE):Prop:=EOk tb X e f
theorem QE_is {tb:Tb} {X:Cx} {e:Expr} {f:FE}:QE tb X e f=EOk tb X e f:=by unfold QE;rfl
@[irreducible] def QT (tb:Tb) (X:Cx) (e:Expr) (f:FT):Prop:=TOk tb X e f
theorem QT_is {tb:Tb} {X:Cx} {e:Expr} {f:FT}:QT tb X e f=TOk tb X e f:=by unfold QT;rfl
@[irreducible] def QA (tb:Tb) (X:Cx) (e:List Expr) (f:FA):Prop:=AOk tb X e f
theorem QA_is {tb:Tb} {X:Cx} {e:List Expr} {f:FA}:QA tb X e f=AOk tb X e f:=by unfold QA;rfl
@[irreducible] def QS (tb:Tb) (X:Cx) (e:Stmt) (f:FSt):Prop:=SOk tb X e f
theorem QS_is {tb:Tb} {X:Cx} {e:Stmt} {f:FSt}:QS tb X e f=SOk tb X e f:=by unfold QS;rfl
@[irreducible] def QB (tb:Tb) (X:Cx) (e:List Stmt) (f:FSt):Prop:=BOk tb X e f
theorem QB_is {tb:Tb} {X:Cx} {e:List Stmt} {f:FSt}:QB tb X e f=BOk tb X e f:=by unfold QB;rfl
@[irreducible] def QW (tb:Tb) (X:Cx) (e:Expr) (f:FT):Prop:=WOk tb X e f
theorem QW_is {tb:Tb} {X:Cx} {e:Expr} {f:FT}:QW tb X e f=WOk tb X e f:=by unfold QW;rfl
@[irreducible] def QG (tb:Tb) (X:Cx) (e:Expr) (f:FG):Prop:=GOk tb X e f
theorem QG_is {tb:Tb} {X:Cx} {e:Expr} {f:FG}:QG tb X e f=GOk tb X e f:=by unfold QG;rfl
@[irreducible] def QGs (tb:Tb) (X:Cx) (e:List Expr) (f:List FG):Prop:=GsOk tb X e f
theorem QGs_is {tb:Tb} {X:Cx} {e:List Expr} {f:List FG}:QGs tb X e f=GsOk tb X e f:=by unfold QGs;rfl
@[irreducible] def QI (tb:Tb) (X:Cx) (e:List Expr) (f:FT):Prop:=IfsOk tb X e f
theorem QI_is {tb:Tb} {X:Cx} {e:List Expr} {f:FT}:QI tb X e f=IfsOk tb X e f:=by unfold QI;rfl
@[irreducible] def QO (tb:Tb) (X:Cx) (e:Option Expr) (f:FO):Prop:=OOk tb X e f
theorem QO_is {tb:Tb} {X:Cx} {e:Option Expr} {f:FO}:QO tb X e f=OOk tb X e f:=by unfold QO;rfl
@[irreducible] def QK (tb:Tb) (X:Cx) (e:List Keyword) (f:FA):Prop:=KOk tb X e f
theorem QK_is {tb:Tb} {X:Cx} {e:List Keyword} {f:FA}:QK tb X e f=KOk tb X e f:=by unfold QK;rfl
end FS
namespace FQ
open PySem PySem.Spec PyProof.Rows L2 FX FS
section
variable {tb:Tb} {X:Cx} {σ:L2.St} {ρ ρ':List Addr} {H H':Hp}
end
section
variable {tb:Tb} {X:Cx} {pos:Pos}
theorem e_int {i j}:QE tb X (.Constant (.int i) j pos) (fC (.int i)):=by
 simp only [QE_is] at *
 exact FS.e_int 
theorem e_bl {i j}:QE tb X (.Constant (.bool i) j pos) (fC (.bl i)):=by
 simp only [QE_is] at *
 exact FS.e_bl 
theorem e_non {j}:QE tb X (.Constant .none j pos) (fC .non):=by
 simp only [QE_is] at *
 exact FS.e_non 
theorem e_str {x j}:QE tb X (.Constant (.str x) j pos) (fC (.str x)):=by
 simp only [QE_is] at *
 exact FS.e_str 
theorem e_glob {x:Str} {v:PV} {w:V} {u:Value} (hg:Gl X x) (hm:X.mg x=some u) (r:RelV w u) (hr:∀ ρ H,Rep ρ H v w) (hd:(x == ("__debug__" : Str))=false:=by decide):QE tb X (.Name x pos) (fC v):=by
 simp only [QE_is] at *
 exact FS.e_glob hg hm r hr hd
theorem e_bltn {x:Str} {v:PV} {w:V} {u:Value} (hg:Gl X x) (hm:X.mg x=none) (hv:bootBuiltins x=some u) (r:RelV w u) (hr:∀ ρ H,Rep ρ H v w) (hn:x ≠ "__name__" := by decide) (hd:(x == ("__debug__" : Str))=false:=by decide):QE tb X (.Name x pos) (fC v):=by
 simp only [QE_is] at *
 exact FS.e_bltn hg hm hv r hr hn hd
end
section
variable {tb:Tb} {X:Cx} {pos:Pos} {a b c:Expr} {fa fb fc:FE}
end
section
variable {tb:Tb} {X:Cx} {pos:Pos} {a b c:Expr} {fa fb fc:FE} {ta tb':FT} {rest:List Expr}
theorem e_one {op} (h:QE tb X a fa):QE tb X (.BoolOp op [a] pos) fa:=by
 simp only [QE_is] at *
 exact FS.e_one h
theorem e_and (ha:QE tb X a fa) (hb:QE tb X (.BoolOp .And (b :: rest) pos) fb):QE tb X (.BoolOp .And (a :: b :: rest) pos) (fAnd fa fb):=by
 simp only [QE_is] at *
 exact FS.e_and ha hb
theorem e_or (ha:QE tb X a fa) (hb:QE tb X (.BoolOp .Or (b :: rest) pos) fb):QE tb X (.BoolOp .Or (a :: b :: rest) pos) (fOr fa fb):=by
 simp only [QE_is] at *
 exact FS.e_or ha hb
theorem e_not (ha:QE tb X a fa):QE tb X (.UnaryOp .Not a pos) (fNot fa):=by
 simp only [QE_is] at *
 exact FS.e_not ha
theorem t_val (h:QE tb X a fa) (he:∀ whole,isTrue a X.env whole=(do let v <- whole;standAt a.pos;holding [v] (truthy v)):=by intro _;rfl):QT tb X a (fB fa):=by
 simp only [QE_is,QT_is] at *
 exact FS.t_val h he
theorem t_not (ha:QT tb X a ta):QT tb X (.UnaryOp .Not a pos) (tNotF ta):=by
 simp only [QT_is] at *
 exact FS.t_not ha
theorem w_and1 (ha:QT tb X a ta):QW tb X (.BoolOp .And [a] pos) ta:=by
 simp only [QT_is,QW_is] at *
 exact FS.w_and1 ha
theorem w_or1 (ha:QT tb X a ta):QW tb X (.BoolOp .Or [a] pos) ta:=by
 simp only [QT_is,QW_is] at *
 exact FS.w_or1 ha
theorem w_and (ha:QT tb X a ta) (hb:QW tb X (.BoolOp .And (b :: rest) pos) tb'):QW tb X (.BoolOp .And (a :: b :: rest) pos) (tAndF ta tb'):=by
 simp only [QT_is,QW_is] at *
 exact FS.w_and ha hb
theorem w_or (ha:QT tb X a ta) (hb:QW tb X (.BoolOp .Or (b :: rest) pos) tb'):QW tb X (.BoolOp .Or (a :: b :: rest) pos) (tOrF ta tb'):=by
 simp only [QT_is,QW_is] at *
 exact FS.w_or ha hb
theorem w_pt {e:Expr} (h:QW tb X e ta):QT tb X e ta:=by
 simp only [QT_is,QW_is] at *
 exact FS.w_pt h
theorem e_ifExp (hc:QT tb X c ta) (ha:QE tb X a fa) (hb:QE tb X b fb):QE tb X (.IfExp c a b pos) (fIf ta fa fb):=by
 simp only [QE_is,QT_is] at *
 exact FS.e_ifExp hc ha hb
end
section
variable {tb:Tb} {X:Cx} {pos:Pos} {e:Expr} {es:List Expr} {fe:FE} {fs:FA}
theorem a_nil:QA tb X [] aNil:=by
 simp only [QA_is] at *
 exact FS.a_nil 
theorem a_cons (ha:QE tb X e fe) (hr:QA tb X es fs) (hs:starEach (e :: es) X.env=(false,eval e X.env) :: starEach es X.env:=by rfl):QA tb X (e :: es) (aCons fe fs):=by
 simp only [QE_is,QA_is] at *
 exact FS.a_cons ha hr hs
theorem e_tup {x1} (h:QA tb X es fs):QE tb X (.Tuple es x1 pos) (fTup fs):=by
 simp only [QE_is,QA_is] at *
 exact FS.e_tup h
theorem e_lst (h:QA tb X es fs):QE tb X (.List es pos) (fLst fs):=by
 simp only [QE_is,QA_is] at *
 exact FS.e_lst h
end
section
variable {tb:Tb} {X:Cx} {pos:Pos} {e:Expr} {fe:FE} {st:Stmt} {sts:List Stmt} {f g:FSt} {t:FT}
theorem b_nil:QB tb X [] sNext:=by
 simp only [QB_is] at *
 exact FS.b_nil 
theorem b_cons (h1:QS tb X st f) (h2:QB tb X sts g):QB tb X (st :: sts) (sSeq f g):=by
 simp only [QS_is,QB_is] at *
 exact FS.b_cons h1 h2
theorem b_one (h1:QS tb X st f):QB tb X [st] f:=by
 simp only [QS_is,QB_is] at *
 exact FS.b_one h1
theorem s_ret (he:QE tb X e fe):QS tb X (.Return (some e) pos) (sRet fe):=by
 simp only [QE_is,QS_is] at *
 exact FS.s_ret he
theorem s_expr (he:QE tb X e fe) (hs:swapsWith e none pos.line X.env=pure false:=by rfl):QS tb X (.Expr e pos) (sExpr fe):=by
 simp only [QE_is,QS_is] at *
 exact FS.s_expr he hs
theorem s_if {c:Expr} {as bs:List Stmt} (hc:QT tb X c t) (ha:QB tb X as f) (hb:QB tb X bs g):QS tb X (.If c as bs pos) (sIf t f g):=by
 simp only [QT_is,QS_is,QB_is] at *
 exact FS.s_if hc ha hb
theorem s_asg {tg:Expr} {g:FG} (he:QE tb X e fe) (hg:QG tb X tg g) (hs:swapsWithSole [tg] e pos.line X.env=pure false:=by rfl) (hw:swappedStores [tg] e X.env=pure none:=by rfl)
  (h1:(assignEach [tg] X.env).map (·.2)=[assign tg X.env]:=by rfl):QS tb X (.Assign [tg] e pos) (sAsg fe g):=by
 simp only [QE_is,QS_is,QG_is] at *
 exact FS.s_asg he hg hs hw h1
theorem gs_nil:QGs tb X [] []:=by
 simp only [QGs_is] at *
 exact FS.gs_nil 
theorem gs_cons {tg:Expr} {tgs:List Expr} {g:FG} {gs:List FG} (h1:QG tb X tg g) (h2:QGs tb X tgs gs)
  (hs:(assignEach (tg :: tgs) X.env).map (·.2)=assign tg X.env :: (assignEach tgs X.env).map (·.2):=by rfl):QGs tb X (tg :: tgs) (g :: gs):=by
 simp only [QG_is,QGs_is] at *
 exact FS.gs_cons h1 h2 hs
theorem g_tup {tgs:List Expr} {k:Nat} {gs:List FG} (hc:X.calm=true) (h:QGs tb X tgs gs) (hn:(assignEach tgs X.env).length=gs.length:=by rfl) (hst:(assignEach tgs X.env).findIdx? (·.1)=none:=by rfl):QG tb X (.Tuple tgs k pos) (gT gs):=by
 simp only [QG_is,QGs_is] at *
 exact FS.g_tup hc h hn hst
end
section
variable {tb:Tb} {X:Cx} {pos:Pos}
end
section
variable {tb:Tb} {X:Cx} {pos p:Pos} {x:Str} {e:Expr} {es:List Expr} {fs:FA} {k:Nat} {f:Addr} {fd:FuncData} {ps:List Str} {F:FF}
end
section
variable {tb:Tb} {P:Program} {w:World} {K:PySem.W.Frag} {mg:Str->Option Value} {base:Heap}
end
section
variable {tb:Tb} {X:Cx} {pos:Pos} {a b c:Expr} {fa fb fc:FE}
theorem e_eq (hu:X.A.units + 40 < cLine) (ha:QE tb X a fa) (hb:QE tb X b fb) (hm:behindInMarks .Eq b=false:=by rfl):QE tb X (.Compare a [.Eq] [b] pos) (fOp gEq fa fb):=by
 simp only [QE_is] at *
 exact FS.e_eq hu ha hb hm
theorem t_eq (hu:X.A.units + 40 < cLine) (ha:QE tb X a fa) (hb:QE tb X b fb) (hm:behindInMarks .Eq b=false:=by rfl):QT tb X (.Compare a [.Eq] [b] pos) (fB (fOp gEq fa fb)):=by
 simp only [QE_is,QT_is] at *
 exact FS.t_eq hu ha hb hm
theorem t_ne (hu:X.A.units + 40 < cLine) (ha:QE tb X a fa) (hb:QE tb X b fb) (hm:behindInMarks .NotEq b=false:=by rfl):QT tb X (.Compare a [.NotEq] [b] pos) (fB (fOp gNe fa fb)):=by
 simp only [QE_is,QT_is] at *
 exact FS.t_ne hu ha hb hm
theorem e_mul (ha:QE tb X a fa) (hb:QE tb X b fb):QE tb X (.BinOp a .Mult b pos) (fOp gMul fa fb):=by
 simp only [QE_is] at *
 exact FS.e_mul ha hb
theorem e_mod (ha:QE tb X a fa) (hb:QE tb X b fb):QE tb X (.BinOp a .Mod b pos) (fOp gMod fa fb):=by
 simp only [QE_is] at *
 exact FS.e_mod ha hb
theorem e_div (ha:QE tb X a fa) (hb:QE tb X b fb):QE tb X (.BinOp a .FloorDiv b pos) (fOp gDiv fa fb):=by
 simp only [QE_is] at *
 exact FS.e_div ha hb
theorem e_pow (ha:QE tb X a fa) (hb:QE tb X b fb):QE tb X (.BinOp a .Pow b pos) (fOp gPow fa fb):=by
 simp only [QE_is] at *
 exact FS.e_pow ha hb
theorem t_ge (ha:QE tb X a fa) (hb:QE tb X b fb) (hm:behindInMarks .GtE b=false:=by rfl):QT tb X (.Compare a [.GtE] [b] pos) (fB (fOp (gI fun i j=>decide (j<=i)) fa fb)):=by
 simp only [QE_is,QT_is] at *
 exact FS.t_ge ha hb hm
theorem t_lt (ha:QE tb X a fa) (hb:QE tb X b fb) (hm:behindInMarks .Lt b=false:=by rfl):QT tb X (.Compare a [.Lt] [b] pos) (fB (fOp (gI fun i j=>decide (i < j)) fa fb)):=by
 simp only [QE_is,QT_is] at *
 exact FS.t_lt ha hb hm
theorem t_gt (ha:QE tb X a fa) (hb:QE tb X b fb) (hm:behindInMarks .Gt b=false:=by rfl):QT tb X (.Compare a [.Gt] [b] pos) (fB (fOp (gI fun i j=>decide (j < i)) fa fb)):=by
 simp only [QE_is,QT_is] at *
 exact FS.t_gt ha hb hm
theorem e_plus (ha:QE tb X a fa) (hb:QE tb X b fb):QE tb X (.BinOp a .Add b pos) (fOp gPlus fa fb):=by
 simp only [QE_is] at *
 exact FS.e_plus ha hb
end
section
variable {tb:Tb} {X:Cx} {pos p:Pos} {a b c e:Expr} {es:List Expr} {fa fb fc:FE} {fs:FA} {x:Str}
theorem e_ix (ha:QE tb X a fa) (hb:QE tb X b fb) (hs:PlainIx b:=by intro _ _;rfl):QE tb X (.Subscript a b pos) (fOp gIx fa fb):=by
 simp only [QE_is] at *
 exact FS.e_ix ha hb hs
end
section
variable {tb:Tb} {X:Cx} {pos:Pos}
theorem s_forL {tg iter:Expr} {body:List Stmt} {fi:FE} {g:FG} {f:FSt} (hc:X.calm=true) (hi:QE tb X.nox iter fi) (hg:QG tb X.nox tg g) (hb:QB tb X.nox body f) (hs:∀ x,foldedSetIterable iter X.env x=pure x:=by intro _;rfl) :
  QS tb X (.For tg iter body [] pos) (sForL fi g f):=by
 simp only [QE_is,QS_is,QB_is,QG_is] at *
 exact FS.s_forL hc hi hg hb hs
end
section
variable {tb:Tb} {X:Cx} {pins:List (Addr × Obj)} {σ:L2.St} {H:Hp} {s:Shared}
theorem ifs_nil {Y:Cx}:QI tb Y [] tYes:=by
 simp only [QI_is] at *
 exact FS.ifs_nil 
theorem e_compL {elt iter:Expr} {x:Str} {px cpos:Pos} {ifs:List Expr} {scope:Scope} {cl:List (Str × Addr)} {own xs:List Str} {pr:List Nat} {fi:FE} {g:FG} {ft:FT} {fe:FE}
  (hclos:closureFor scope X.env=pure cl) (hcl:AllC X.env.cells cl) (cap:CapOk X scope cl pr xs) (hi:QE tb X iter fi)
  (hg:InBlock X (own++xs) scope cl fun Y=>QG tb Y (.Name x px) g) (ht:InBlock X (own++xs) scope cl fun Y=>QI tb Y ifs ft) (he:InBlock X (own++xs) scope cl fun Y=>QE tb Y elt fe)
  (hk:scope.kind=.function:=by rfl) (hcell:∀ y ∈ scope.names,y.2 ≠ .cell:=by decide) (hfree:∀ y ∈ scope.names,y.2=.free->y.1 ∈ xs:=by decide)
  (hnames:∀ x ∈ scope.names,x.2=.local->scope.names.lookup x.1=some .local:=by decide) (hs:∀ x,foldedSetIterable iter X.env x=pure x:=by intro _;rfl) :
  QE tb X (.ListComp elt [⟨.Name x px,iter,ifs,0⟩] scope cpos) (fCompL own.length pr fi g ft fe):=by
 simp only [QE_is,QG_is,QI_is] at *
 exact FS.e_compL hclos hcl cap hi hg ht he hk hcell hfree hnames hs
end
section
variable {tb:Tb} {X:Cx} {pins:List (Addr × Obj)} {σ:L2.St} {H:Hp} {s:Shared}
theorem e_compS {elt iter:Expr} {x:Str} {px cpos:Pos} {ifs:List Expr} {scope:Scope} {cl:List (Str × Addr)} {own xs:List Str} {pr:List Nat} {fi:FE} {g:FG} {ft:FT} {fe:FE} (hc:X.calm=true)
  (hclos:closureFor scope X.env=pure cl) (hcl:AllC X.env.cells cl) (cap:CapOk X scope cl pr xs) (hi:QE tb X iter fi)
  (hg:InBlock X (own++xs) scope cl fun Y=>QG tb Y (.Name x px) g) (ht:InBlock X (own++xs) scope cl fun Y=>QI tb Y ifs ft) (he:InBlock X (own++xs) scope cl fun Y=>QE tb Y elt fe)
  (hk:scope.kind=.function:=by rfl) (hcell:∀ y ∈ scope.names,y.2 ≠ .cell:=by decide) (hfree:∀ y ∈ scope.names,y.2=.free->y.1 ∈ xs:=by decide)
  (hnames:∀ x ∈ scope.names,x.2=.local->scope.names.lookup x.1=some .local:=by decide) (hs:∀ x,foldedSetIterable iter X.env x=pure x:=by intro _;rfl) :
  QE tb X (.ListComp elt [⟨.Name x px,iter,ifs,0⟩] scope cpos) (fCompS own.length pr fi g ft fe):=by
 simp only [QE_is,QG_is,QI_is] at *
 exact FS.e_compS hc hclos hcl cap hi hg ht he hk hcell hfree hnames hs
theorem e_compR {elt a:Expr} {x:Str} {p1' p2' px cpos:Pos} {ifs:List Expr} {scope:Scope} {cl:List (Str × Addr)} {own xs:List Str} {pr:List Nat} {fn:FA} {g:FG} {ft:FT} {fe:FE} (hc:X.calm=true) (hgl:Gl X "range") (hm:X.mg "range" = none)
  (hclos:closureFor scope X.env=pure cl) (hcl:AllC X.env.cells cl) (cap:CapOk X scope cl pr xs) (hi:QA tb X [a] fn)
  (hg:InBlock X (own++xs) scope cl fun Y=>QG tb Y (.Name x px) g) (ht:InBlock X (own++xs) scope cl fun Y=>QI tb Y ifs ft) (he:InBlock X (own++xs) scope cl fun Y=>QE tb Y elt fe)
  (hk:scope.kind=.function:=by rfl) (hcell:∀ y ∈ scope.names,y.2 ≠ .cell:=by decide) (hfree:∀ y ∈ scope.names,y.2=.free->y.1 ∈ xs:=by decide)
  (hnames:∀ x ∈ scope.names,x.2=.local->scope.names.lookup x.1=some .local:=by decide) (hs:∀ x,foldedSetIterable (.Call (.Name "range" p1') [a] [] p2') X.env x=pure x:=by intro _;rfl) (hst:starEach [a] X.env=[(false,eval a X.env)]:=by rfl) :
  QE tb X (.ListComp elt [⟨.Name x px,.Call (.Name "range" p1') [a] [] p2',ifs,0⟩] scope cpos) (fCompR own.length pr fn g ft fe):=by
 simp only [QE_is,QA_is,QG_is,QI_is] at *
 exact FS.e_compR hc hgl hm hclos hcl cap hi hg ht he hk hcell hfree hnames hs hst
end
section
variable {tb:Tb} {X:Cx} {pos p:Pos} {a b c e:Expr} {es:List Expr} {fa fb fc:FE} {fs:FA} {x:Str}
theorem e_isi {tab:ITab} (ht:TabK X.K tab) (hg:Gl X "isinstance") (hm:X.mg "isinstance" = none) (ha:QA tb X (e :: es) fs)
  (he:starEach (e :: es) X.env=(false,eval e X.env) :: starEach es X.env:=by rfl) (hpl:(backTo pos (starEach es X.env)).any (·.1)=false:=by rfl):QE tb X (.Call (.Name "isinstance" p) (e :: es) [] pos) (fCB (gIsi tab) fs):=by
 simp only [QE_is,QA_is] at *
 exact FS.e_isi ht hg hm ha he hpl
theorem e_chain {op op':CmpOp} {r r':R2} {g g':G2} (ho:OpR X (compareOp op) r) (h:Op2 tb X r g) (ho':OpR X (compareOp op') r') (h':Op2 tb X r' g') (ha:QE tb X a fa) (hb:QE tb X b fb) (hc:QE tb X c fc)
  (hm:lastMarks [op,op'] [b,c]=false:=by with_unfolding_all rfl):QE tb X (.Compare a [op,op'] [b,c] pos) (fChain g g' fa fb fc):=by
 simp only [QE_is] at *
 exact FS.e_chain ho h ho' h' ha hb hc hm
end
section
variable {tb:Tb} {X:Cx} {pos p p2 apos cpos:Pos} {a b c e o:Expr} {es:List Expr} {fa fb fc fe fo:FE} {fs:FA} {x:Str}
theorem o_none:QO tb X none oNone:=by
 simp only [QO_is] at *
 exact FS.o_none 
theorem o_some (he:QE tb X e fe):QO tb X (some e) (oSome fe):=by
 simp only [QE_is,QO_is] at *
 exact FS.o_some he
theorem e_bms {name:Str} {id:String} {g:GM} (slot:Slot "str" name id) (hty:typeOf (.builtin id)=pure (.type "method_descriptor")) (hm:MtR X id (rmOf tb X g)) (ho:QE tb X o fo) (ha:QA tb X (e :: es) fs)
  (hbase:attributeBase o name X.env (eval o X.env)=eval o X.env:=by rfl)
  (hfew:((backTo cpos (starEach (e :: es) X.env)).all (fun x=>!x.1) && (backToKw cpos (keywordEach [] X.env)).all (fun x=>x.1.isSome)
   && decide ((e :: es).length + ([]:List Keyword).length + (if ([]:List Keyword).isEmpty then 0 else 1) < 30))=true:=by rfl)
  (hline:(apos.endLine == cpos.line)=true:=by rfl) (hs:starEach (e :: es) X.env=(false,eval e X.env) :: starEach es X.env:=by rfl) (hplain:(backTo cpos (starEach es X.env)).any (·.1)=false:=by rfl) :
  QE tb X (.Call (.Attribute o name apos) (e :: es) [] cpos) (fBMs g fo fs):=by
 simp only [QE_is,QA_is] at *
 exact FS.e_bms slot hty hm ho ha hbase hfew hline hs hplain
theorem e_append (ho:QE tb X o fo) (ha:QA tb X [e] fs)
  (hbase:attributeBase o "append" X.env (eval o X.env)=eval o X.env:=by rfl)
  (hfew:((backTo cpos (starEach [e] X.env)).all (fun x=>!x.1) && (backToKw cpos (keywordEach [] X.env)).all (fun x=>x.1.isSome)
   && decide ([e].length + ([]:List Keyword).length + (if ([]:List Keyword).isEmpty then 0 else 1) < 30))=true:=by rfl)
  (hline:(apos.endLine == cpos.line)=true:=by rfl) (hs:starEach [e] X.env=(false,eval e X.env) :: starEach [] X.env:=by rfl) (hplain:(backTo cpos (starEach [] X.env)).any (·.1)=false:=by rfl) :
  QE tb X (.Call (.Attribute o "append" apos) [e] [] cpos) (fBMl gApp fo fs):=by
 simp only [QE_is,QA_is] at *
 exact FS.e_append ho ha hbase hfew hline hs hplain
end
section
variable {tb:Tb} {X:Cx} {pos p p2 apos cpos:Pos} {a b c e o:Expr} {es:List Expr} {fa fb fc fe fo fi:FE} {fs:FA} {x:Str}
theorem g_setL (ho:QE tb X o fo) (hi:QE tb X a fi) (ha:∀ v,assign (.Subscript o a pos) X.env v=(do
   let ov <- holding [v] (eval o X.env)
   let iv <- holding [v,ov] (eval a X.env)
   standAt pos
   holding [v,ov,iv] (setItem ov iv v)
   release [v,ov,iv] []):=by intro _;rfl):QG tb X (.Subscript o a pos) (gSetL fo fi):=by
 simp only [QE_is,QG_is] at *
 exact FS.g_setL ho hi ha
theorem e_index (ho:QE tb X o fo) (ha:QA tb X [e] fs)
  (hbase:attributeBase o "index" X.env (eval o X.env)=eval o X.env:=by rfl)
  (hfew:((backTo cpos (starEach [e] X.env)).all (fun x=>!x.1) && (backToKw cpos (keywordEach [] X.env)).all (fun x=>x.1.isSome)
   && decide ([e].length + ([]:List Keyword).length + (if ([]:List Keyword).isEmpty then 0 else 1) < 30))=true:=by rfl)
  (hline:(apos.endLine == cpos.line)=true:=by rfl) (hs:starEach [e] X.env=(false,eval e X.env) :: starEach [] X.env:=by rfl) (hplain:(backTo cpos (starEach [] X.env)).any (·.1)=false:=by rfl) :
  QE tb X (.Call (.Attribute o "index" apos) [e] [] cpos) (fBMl gIdx fo fs):=by
 simp only [QE_is,QA_is] at *
 exact FS.e_index ho ha hbase hfew hline hs hplain
end
section
variable {tb:Tb} {X:Cx} {pos p:Pos} {e:Expr} {es:List Expr} {fs:FA}
theorem e_all (hg:Gl X "all") (hm:X.mg "all" = none) (ha:QA tb X (e :: es) fs) (he:starEach (e :: es) X.env=(false,eval e X.env) :: starEach es X.env:=by rfl) (hpl:(backTo pos (starEach es X.env)).any (·.1)=false:=by rfl) :
  QE tb X (.Call (.Name "all" p) (e :: es) [] pos) (fCB gAll fs):=by
 simp only [QE_is,QA_is] at *
 exact FS.e_all hg hm ha he hpl
theorem e_sum (hg:Gl X "sum") (hm:X.mg "sum" = none) (ha:QA tb X (e :: es) fs) (he:starEach (e :: es) X.env=(false,eval e X.env) :: starEach es X.env:=by rfl) (hpl:(backTo pos (starEach es X.env)).any (·.1)=false:=by rfl) :
  QE tb X (.Call (.Name "sum" p) (e :: es) [] pos) (fCB gSum fs):=by
 simp only [QE_is,QA_is] at *
 exact FS.e_sum hg hm ha he hpl
theorem e_len (hg:Gl X "len") (hm:X.mg "len" = none) (ha:QA tb X (e :: es) fs) (he:starEach (e :: es) X.env=(false,eval e X.env) :: starEach es X.env:=by rfl) (hpl:(backTo pos (starEach es X.env)).any (·.1)=false:=by rfl) :
  QE tb X (.Call (.Name "len" p) (e :: es) [] pos) (fCB gLen fs):=by
 simp only [QE_is,QA_is] at *
 exact FS.e_len hg hm ha he hpl
theorem e_max (hc:X.calm=true) (hg:Gl X "max") (hm:X.mg "max" = none) (ha:QA tb X (e :: es) fs) (he:starEach (e :: es) X.env=(false,eval e X.env) :: starEach es X.env:=by rfl) (hpl:(backTo pos (starEach es X.env)).any (·.1)=false:=by rfl) :
  QE tb X (.Call (.Name "max" p) (e :: es) [] pos) (fCB gMax fs):=by
 simp only [QE_is,QA_is] at *
 exact FS.e_max hc hg hm ha he hpl
theorem e_min (hc:X.calm=true) (hg:Gl X "min") (hm:X.mg "min" = none) (ha:QA tb X (e :: es) fs) (he:starEach (e :: es) X.env=(false,eval e X.env) :: starEach es X.env:=by rfl) (hpl:(backTo pos (starEach es X.env)).any (·.1)=false:=by rfl) :
  QE tb X (.Call (.Name "min" p) (e :: es) [] pos) (fCB gMin fs):=by
 simp only [QE_is,QA_is] at *
 exact FS.e_min hc hg hm ha he hpl
theorem e_intC (hg:Gl X "int") (hm:X.mg "int" = none) (ha:QA tb X (e :: es) fs) (he:starEach (e :: es) X.env=(false,eval e X.env) :: starEach es X.env:=by rfl) (hpl:(backTo pos (starEach es X.env)).any (·.1)=false:=by rfl) :
  QE tb X (.Call (.Name "int" p) (e :: es) [] pos) (fCB gInt fs):=by
 simp only [QE_is,QA_is] at *
 exact FS.e_intC hg hm ha he hpl
end
section
variable {tb:Tb} {X:Cx} {pos np cpos:Pos} {e:Expr} {es:List Expr} {fs:FA} {x:Str} {C:Addr}
theorem s_raise (hc:X.calm=true) (hx:PySem.W.excIn X.K C bmV "ValueError.__new__" = true) (hg:Gl X x) (hm:X.mg x=some (.ref C)) (ha:QA tb X (e :: es) fs) (hdb:(x == ("__debug__" : Str))=false:=by decide)
  (he:starEach (e :: es) X.env=(false,eval e X.env) :: starEach es X.env:=by rfl) (hpl:(backTo cpos (starEach (e :: es) X.env)).any (·.1)=false:=by rfl):QS tb X (.Raise (some (.Call (.Name x np) (e :: es) [] cpos)) none pos) (sRaise C fs):=by
 simp only [QA_is,QS_is] at *
 exact FS.s_raise hc hx hg hm ha hdb he hpl
end
section
variable {tb:Tb} {P:Program} {w:World} {K:PySem.W.Frag} {mg:Str->Option Value} {base:Heap}
end
section
variable {tb:Tb} {X:Cx} {pos p:Pos} {x:Str} {e:Expr} {es:List Expr} {fs:FA} {k:Nat} {f:Addr} {fd:FuncData} {ps:List Str} {F:FF}
end
section
variable {tb:Tb} {X:Cx} {pos:Pos}
theorem b_bad {sts:List Stmt}:QB tb X sts sBad:=by
 simp only [QB_is] at *
 exact FS.b_bad 
theorem ev (i:Nat) {x:Str} (hN:X.N[i]?=some x:=by rfl) (hv:Vis X.env.scope x:=by first | exact Or.inl rfl | exact Or.inr (Or.inl rfl) | exact Or.inr (Or.inr rfl)) (hd:(x == ("__debug__" : Str))=false:=by decide) (hcd:(x == ("__classdict__" : Str))=false:=by decide):QE tb X (.Name x pos) (fVar i):=by
 simp only [QE_is] at *
 exact FS.ev i hN hv hd hcd
theorem gn (i:Nat) {x:Str} (hN:X.N.Nodup:=by first | decide | decide +kernel) (hi:X.N[i]?=some x:=by rfl) (hx:Loc X.env.scope x:=by first | exact Or.inl rfl | exact Or.inr rfl) (hf:X.fn x=true\/X.env.scope.names.lookup x=some .local:=by first | exact .inl rfl | exact .inr rfl):QG tb X (.Name x pos) (gN i):=by
 simp only [QG_is] at *
 exact FS.gn i hN hi hx hf
end
section
variable {tb:Tb} {P:Program} {w:World} {K:PySem.W.Frag} {mg:Str->Option Value} {base:Heap}
theorem fnD {x:Str} {st:Stmt} {f:Addr} {ps N:List Str} {k:Nat} {g:FSt} (D:DefD K mg x st f ps) (S:FnScope N ps (defScope st))
  (hbody:∀ (cdv:Value) (A:Around) (outer:List Env) (s:Shared) (H:Hp) (E:XK),Room k (A.deeper (envOfC x (defScope st) s.heap.objs.size f cdv))->QB tb (cxOf (CXF P w base) P w K mg base N x (defScope st) f cdv A outer s H E) (defBody st) g) :
  FnD P w K mg base tb (k + 1) x f ps (fun xs=>runB g (startT N xs)):=by
 simp only [QB_is] at *
 exact FS.DefD.fn D S hbody
end
section
variable {tb:Tb} {X:Cx} {pos p:Pos} {x:Str} {e:Expr} {es:List Expr} {fs:FA} {k:Nat} {f:Addr} {ps:List Str} {F:FF}
theorem e_callD (D:FnD X.prog X.w X.K X.mg X.base tb k x f ps F) (hr:Room k X.A) (ha:QA tb X (e :: es) fs) (hg:Gl X x:=by rfl) (hdb:(x == ("__debug__" : Str))=false:=by decide) (he:starEach (e :: es) X.env=(false,eval e X.env) :: starEach es X.env:=by rfl) (hpl:(backTo pos (starEach es X.env)).any (·.1)=false:=by rfl) :
  QE tb X (.Call (.Name x p) (e :: es) [] pos) (fCall F ps.length fs):=by
 simp only [QE_is,QA_is] at *
 exact FS.e_callD D hr ha hg hdb he hpl
end
section
variable {tb:Tb} {P:Program} {w:World} {K:PySem.W.Frag} {mg:Str->Option Value} {base:Heap}
theorem fnWD {x:Str} {st:Stmt} {f:Addr} {ps N:List Str} {k:Nat} {g:FSt} (D:DefD K mg x st f ps) (S:FnScope N ps (defScope st))
  (hbody:∀ (cdv:Value) (A:Around) (outer:List Env) (s:Shared) (H:Hp),RoomW k (A.deeper (envOfC x (defScope st) s.heap.objs.size f cdv))->QB tb (cxW P w K mg base N x (defScope st) f cdv A outer s H) (defBody st) g) :
  FnWD P w K mg base tb (k + 1) x f ps (fun xs=>runB g (startT N xs)):=by
 simp only [QB_is] at *
 exact FS.DefD.fnW D S hbody
end
section
variable {tb:Tb} {X:Cx} {pos p:Pos} {x:Str} {e:Expr} {es:List Expr} {fs:FA} {k:Nat} {f:Addr} {ps:List Str} {F:FF}
end
section
variable {tb:Tb} {X:Cx} {pos p p' pos':Pos} {e o value:Expr} {es:List Expr} {fe fo:FE} {fs:FA} {f x m:Str}
theorem e_fld {ct:CTab} (hct:CTabK X.K ct) (he:QE tb X e fe) (hb:attributeBase e f X.env (eval e X.env)=eval e X.env:=by rfl):QE tb X (.Attribute e f pos) (fFld ct f fe):=by
 simp only [QE_is] at *
 exact FS.e_fld hct he hb
theorem s_fld {ct:CTab} (hct:CTabK X.K ct) (ho:QE tb X o fo) (hv:QE tb X value fe) (hs:swapsWith value (some (.Attribute o f pos')) pos.line X.env=pure false:=by rfl) :
  QS tb X (.Assign [.Attribute o f pos'] value pos) (sFldF ct f fo fe):=by
 simp only [QE_is,QS_is] at *
 exact FS.s_fld hct ho hv hs
theorem e_meth {pl:Sem Bool} {apos:Pos} {C:Addr} {k:Nat} {g:Addr} {ps:List Str} {F:FF} (D:MethD X.prog X.w X.K X.mg X.base tb k C m g ps F) (hr:Room k X.A) (ho:QE tb X o fo) (ha:QA tb X (e :: es) fs)
  (hst:starEach (e :: es) X.env=(false,eval e X.env) :: starEach es X.env:=by rfl) (hpl:(backTo pos (starEach es X.env)).any (·.1)=false:=by rfl)
  (ht:eval (.Call (.Attribute o m apos) (e :: es) [] pos) X.env=(do
   let ov <- eval o X.env
   standAt apos.atName
   let (f,first) <- holding [ov] (getMethod ov m pl)
   callWith pos f first (backTo pos (starEach (e :: es) X.env)) (backToKw pos (keywordEach [] X.env))):=by rfl) :
  QE tb X (.Call (.Attribute o m apos) (e :: es) [] pos) (fMeth C m F ps.length fo fs):=by
 simp only [QE_is,QA_is] at *
 exact FS.e_meth D hr ho ha hst hpl ht
theorem e_meth0 {pl:Sem Bool} {apos:Pos} {C:Addr} {k:Nat} {g:Addr} {ps:List Str} {F:FF} (D:MethD X.prog X.w X.K X.mg X.base tb k C m g ps F) (hr:Room k X.A) (ho:QE tb X o fo)
  (ht:eval (.Call (.Attribute o m apos) [] [] pos) X.env=(do
   let ov <- eval o X.env
   standAt apos.atName
   let (f,first) <- holding [ov] (getMethod ov m pl)
   callWith pos f first (backTo pos (starEach [] X.env)) (backToKw pos (keywordEach [] X.env))):=by rfl) :
  QE tb X (.Call (.Attribute o m apos) [] [] pos) (fMeth C m F ps.length fo aNil):=by
 simp only [QE_is] at *
 exact FS.e_meth0 D hr ho ht
theorem k_nil:QK tb X [] aNil:=by
 simp only [QK_is] at *
 exact FS.k_nil 
theorem k_cons {nm:Option Str} {kpos:Pos} {kws:List Keyword} (ha:QE tb X e fe) (hr:QK tb X kws fs):QK tb X (⟨nm,e,kpos⟩ :: kws) (aCons fe fs):=by
 simp only [QE_is,QK_is] at *
 exact FS.k_cons ha hr
theorem e_methK {pl:Sem Bool} {apos:Pos} {C:Addr} {k:Nat} {g:Addr} {ps ks:List Str} {F:FF} {kws:List Keyword} {fk:FA} (D:MethK X.prog X.w X.K X.mg X.base tb k C m g ps ks F) (hr:Room k X.A) (ho:QE tb X o fo) (ha:QA tb X (e :: es) fs) (hk:QK tb X kws fk)
  (hall:(backToKw pos (keywordEach kws X.env)).all (·.1.isSome)=true:=by rfl) (hks:(backToKw pos (keywordEach kws X.env)).filterMap (·.1)=ks:=by rfl)
  (he:starEach (e :: es) X.env=(false,eval e X.env) :: starEach es X.env:=by rfl)
  (hpl:((backTo pos (starEach (e :: es) X.env)).any (·.1) || (backToKw pos (keywordEach kws X.env)).any (·.1.isNone))=false:=by rfl)
  (ht:eval (.Call (.Attribute o m apos) (e :: es) kws pos) X.env=(do
   let ov <- eval o X.env
   standAt apos.atName
   let (f,first) <- holding [ov] (getMethod ov m pl)
   callWith pos f first (backTo pos (starEach (e :: es) X.env)) (backToKw pos (keywordEach kws X.env))):=by rfl) :
  QE tb X (.Call (.Attribute o m apos) (e :: es) kws pos) (fMethK C m F ps.length ks.length fo fs fk):=by
 simp only [QE_is,QA_is,QK_is] at *
 exact FS.e_methK D hr ho ha hk hall hks he hpl ht
theorem e_make0 {k:Nat} {C g:Addr} {ps:List Str} {F:FF} (D:MakeD X.prog X.w X.K X.mg X.base tb k x C g ps F) (hps:ps.length=1) (hr:Room (k + 1) X.A) (hg:Gl X x:=by rfl) (hdb:(x == ("__debug__" : Str))=false:=by decide) :
  QE tb X (.Call (.Name x p) [] [] pos) (fMake C F):=by
 simp only [QE_is] at *
 exact FS.e_make0 D hps hr hg hdb
end
section
variable {tb:Tb} {X:Cx} {pos p p2 apos cpos:Pos} {a b c e o value:Expr} {es:List Expr} {fa fb fc fe fo fi:FE} {fs:FA} {x:Str}
theorem e_dict0:QE tb X (.Dict [] [] pos) fDict0:=by
 simp only [QE_is] at *
 exact FS.e_dict0 
theorem e_dict0T:QE tb X (.Dict [] [] pos) fDict0T:=by
 simp only [QE_is] at *
 exact FS.e_dict0T 
theorem e_ix2 (hu:X.A.units + 40 < cLine) (ha:QE tb X a fa) (hb:QE tb X b fb) (hs:PlainIx b:=by intro _ _;rfl):QE tb X (.Subscript a b pos) (fOp gIx2 fa fb):=by
 simp only [QE_is] at *
 exact FS.e_ix2 hu ha hb hs
end
section
variable {tb:Tb} {X:Cx} {pos p p2 apos cpos:Pos} {a b c e o value:Expr} {es:List Expr} {fa fb fc fe fo fi:FE} {fs:FA} {x:Str}
theorem e_in2 {gt:GTup} (hu:X.A.units + 40 < cLine) (hgt:GtOk X.K gt) (ha:QE tb X a fa) (hb:QE tb X b fb) (hm:behindInMarks .In b=false:=by rfl):QE tb X (.Compare a [.In] [b] pos) (fOp (gIn2 gt) fa fb):=by
 simp only [QE_is] at *
 exact FS.e_in2 hu hgt ha hb hm
theorem t_in2 {gt:GTup} (hu:X.A.units + 40 < cLine) (hgt:GtOk X.K gt) (ha:QE tb X a fa) (hb:QE tb X b fb) (hm:behindInMarks .In b=false:=by rfl):QT tb X (.Compare a [.In] [b] pos) (fB (fOp (gIn2 gt) fa fb)):=by
 simp only [QE_is,QT_is] at *
 exact FS.t_in2 hu hgt ha hb hm
theorem t_notIn {gt:GTup} (hu:X.A.units + 40 < cLine) (hgt:GtOk X.K gt) (ha:QE tb X a fa) (hb:QE tb X b fb) (hm:behindInMarks .NotIn b=false:=by rfl):QT tb X (.Compare a [.NotIn] [b] pos) (fB (fOp (gNotIn gt) fa fb)):=by
 simp only [QE_is,QT_is] at *
 exact FS.t_notIn hu hgt ha hb hm
theorem t_isN (ha:QE tb X a fa) (hb:QE tb X b fb) (hm:behindInMarks .Is b=false:=by rfl):QT tb X (.Compare a [.Is] [b] pos) (fB (fOp gIsN fa fb)):=by
 simp only [QE_is,QT_is] at *
 exact FS.t_isN ha hb hm
theorem g_set2 (hu:X.A.units + 40 < cLine) (ho:QE tb X o fo) (hi:QE tb X a fi) (ha:∀ v,assign (.Subscript o a pos) X.env v=(do
   let ov <- holding [v] (eval o X.env)
   let iv <- holding [v,ov] (eval a X.env)
   standAt pos
   holding [v,ov,iv] (setItem ov iv v)
   release [v,ov,iv] []):=by intro _;rfl):QG tb X (.Subscript o a pos) (gSet2 fo fi):=by
 simp only [QE_is,QG_is] at *
 exact FS.g_set2 hu ho hi ha
end
section
variable {prog:Program} {w:World} {A:Around} {E:Value->Shared->Prop} {s:Shared}
end
section
variable {tb:Tb} {X:Cx} {pos p p2 apos cpos:Pos} {a b c e o value:Expr} {es:List Expr} {fa fb fc fe fo fi:FE} {fs:FA} {x:Str}
theorem e_plus2 (ha:QE tb X a fa) (hb:QE tb X b fb):QE tb X (.BinOp a .Add b pos) (fOp gPlus2 fa fb):=by
 simp only [QE_is] at *
 exact FS.e_plus2 ha hb
theorem e_slice2 {lo hi:Option Expr} {flo fhi:FO} (he:QE tb X e fe) (hl:QO tb X lo flo) (hh:QO tb X hi fhi):QE tb X (.Subscript e (.Slice lo hi none p2) pos) (fSl2 fe flo fhi):=by
 simp only [QE_is,QO_is] at *
 exact FS.e_slice2 he hl hh
theorem e_mul2 (ha:QE tb X a fa) (hb:QE tb X b fb):QE tb X (.BinOp a .Mult b pos) (fOp gMul2 fa fb):=by
 simp only [QE_is] at *
 exact FS.e_mul2 ha hb
theorem t_truth (ha:QE tb X a fa) (he:∀ whole,isTrue a X.env whole=(do let v <- whole;standAt a.pos;holding [v] (truthy v)):=by intro _;rfl):QT tb X a (fTr fa):=by
 simp only [QE_is,QT_is] at *
 exact FS.t_truth ha he
end
section
variable {tb:Tb} {X:Cx} {pos p p2 apos cpos:Pos} {a b c e f o value:Expr} {es:List Expr} {fa fb fc fe ff fo fi:FE} {fs:FA} {x:Str}
theorem e_get1 (hu:X.A.units + 40 < cLine) (ho:QE tb X o fo) (he:QE tb X e fe) (m:M1 X o "get" apos e cpos:=by exact ⟨rfl,rfl,rfl,rfl⟩):QE tb X (.Call (.Attribute o "get" apos) [e] [] cpos) (fGet1 fo fe):=by
 simp only [QE_is] at *
 exact FS.e_get1 hu ho he m
theorem e_get2 (hu:X.A.units + 40 < cLine) (ho:QE tb X o fo) (he:QE tb X e fe) (hf:QE tb X f ff) (m:M2 X o "get" apos e f cpos:=by exact ⟨rfl,rfl,rfl,rfl⟩):QE tb X (.Call (.Attribute o "get" apos) [e,f] [] cpos) (fGet2 fo fe ff):=by
 simp only [QE_is] at *
 exact FS.e_get2 hu ho he hf m
end
section
variable {tb:Tb} {X:Cx} {pos p p2 apos cpos:Pos} {a b c e f o value:Expr} {es:List Expr} {fa fb fc fe ff fo fi:FE} {fs:FA} {x:Str}
theorem e_len2 (hg:Gl X "len") (hm:X.mg "len" = none) (ha:QA tb X (e :: es) fs) (he:starEach (e :: es) X.env=(false,eval e X.env) :: starEach es X.env:=by rfl) (hpl:(backTo pos (starEach es X.env)).any (·.1)=false:=by rfl) :
  QE tb X (.Call (.Name "len" p) (e :: es) [] pos) (fCB gLen2 fs):=by
 simp only [QE_is,QA_is] at *
 exact FS.e_len2 hg hm ha he hpl
theorem e_strC (hg:Gl X "str") (hm:X.mg "str" = none) (ha:QA tb X (e :: es) fs) (he:starEach (e :: es) X.env=(false,eval e X.env) :: starEach es X.env:=by rfl) (hpl:(backTo pos (starEach es X.env)).any (·.1)=false:=by rfl) :
  QE tb X (.Call (.Name "str" p) (e :: es) [] pos) (fCB gStrC fs):=by
 simp only [QE_is,QA_is] at *
 exact FS.e_strC hg hm ha he hpl
theorem e_tupC (hg:Gl X "tuple") (hm:X.mg "tuple" = none) (ha:QA tb X (e :: es) fs) (he:starEach (e :: es) X.env=(false,eval e X.env) :: starEach es X.env:=by rfl) (hpl:(backTo pos (starEach es X.env)).any (·.1)=false:=by rfl) :
  QE tb X (.Call (.Name "tuple" p) (e :: es) [] pos) (fCB gTup fs):=by
 simp only [QE_is,QA_is] at *
 exact FS.e_tupC hg hm ha he hpl
end
section
variable {P:Program} {w:World} {K:PySem.W.Frag} {C fI e t0:Addr} {f p:Str} {A:Around} {E:Value->Shared->Prop} {s:Shared} {u:Value}
end
section
variable {tb:Tb} {X:Cx} {pos np cpos:Pos} {e:Expr} {es:List Expr} {fs:FA} {x f p:Str} {C fI:Addr}
theorem s_raise1 (hc:X.calm=true) (hr:Room 1 X.A) (D:XInit X.K C fI f p) (hg:Gl X x) (hm:X.mg x=some (.ref C)) (ha:QA tb X [e] fs) (hdb:(x == ("__debug__" : Str))=false:=by decide)
  (he:starEach [e] X.env=(false,eval e X.env) :: starEach [] X.env:=by rfl) (hpl:(backTo cpos (starEach [e] X.env)).any (·.1)=false:=by rfl):QS tb X (.Raise (some (.Call (.Name x np) [e] [] cpos)) none pos) (sRaise1 C f fs):=by
 simp only [QA_is,QS_is] at *
 exact FS.s_raise1 hc hr D hg hm ha hdb he hpl
end
section
variable {prog:Program} {w:World} {A:Around} {E:Value->Shared->Prop} {s:Shared} {K:Frag} {x C:Addr} {ox od:Obj}
end
section
variable {tb:Tb} {X:Cx} {pos:Pos} {e:Expr} {fe:FE} {f:Str}
theorem e_xfld {xt:CTab} (hxt:XTabK X.K xt) (he:QE tb X e fe) (hb:attributeBase e f X.env (eval e X.env)=eval e X.env:=by rfl):QE tb X (.Attribute e f pos) (fXFld xt f fe):=by
 simp only [QE_is] at *
 exact FS.e_xfld hxt he hb
end
section
variable {tb:Tb} {X:Cx} {pins:List (Addr × Obj)} {σ:L2.St} {H:Hp} {s:Shared}
end
section
variable {tb:Tb} {X:Cx}
end
section
variable {tb:Tb} {X:Cx} {pos p:Pos} {e:Expr} {es:List Expr} {fs:FA}
end
section
variable {tb:Tb} {X:Cx}
theorem b_forg {sts:List Stmt} {f:FSt} {i:Nat} (hb:QB tb X sts f):QB tb X sts (sForg i f):=by
 simp only [QB_is] at *
 exact FS.b_forg hb
end
section
variable {tb:Tb} {X:Cx} {pos:Pos} {a o e:Expr} {es:List Expr} {fa fo:FE} {fs:FA} {m:Str}
theorem e_neg (ha:QE tb X a fa):QE tb X (.UnaryOp .USub a pos) (fUn gNeg fa):=by
 simp only [QE_is] at *
 exact FS.e_neg ha
end
section
variable {tb:Tb} {P:Program} {w:World} {K:PySem.W.Frag} {mg:Str->Option Value} {base:Heap}
theorem fnM {C:Addr} {m q:Str} {st:Stmt} {f:Addr} {ps N:List Str} {k:Nat} {g:FSt} (D:DefM K C m q st f ps) (S:FnScope N ps (defScope st))
  (hbody:∀ (cdv:Value) (A:Around) (outer:List Env) (s:Shared) (H:Hp) (E:XK),Room k (A.deeper (envOfC q (defScope st) s.heap.objs.size f cdv))->QB tb (cxOf (CXF P w base) P w K mg base N q (defScope st) f cdv A outer s H E) (defBody st) g) :
  MethD P w K mg base tb (k + 1) C m f ps (fun xs=>runB g (startT N xs)):=by
 simp only [QB_is] at *
 exact FS.DefM.fn D S hbody
theorem fnMK {C:Addr} {m q:Str} {st:Stmt} {f:Addr} {ps ks N:List Str} {k:Nat} {g:FSt} (D:DefMK K C m q st f ps ks) (S:FnScope N ps (defScope st))
  (hbody:∀ (cdv:Value) (A:Around) (outer:List Env) (s:Shared) (H:Hp) (E:XK),Room k (A.deeper (envOfC q (defScope st) s.heap.objs.size f cdv))->QB tb (cxOf (CXF P w base) P w K mg base N q (defScope st) f cdv A outer s H E) (defBody st) g) :
  MethK P w K mg base tb (k + 1) C m f ps ks (fun xs=>runB g (startT N xs))/\MethN P w K mg base tb (k + 1) C m f ps (fun xs=>runB g (startT N xs)):=by
 simp only [QB_is] at *
 exact FS.DefMK.fn D S hbody
theorem fnI {C:Addr} {x q:Str} {st:Stmt} {f:Addr} {ps N:List Str} {k:Nat} {g:FSt} (D:DefI K mg x C q st f ps) (S:FnScope N ps (defScope st))
  (hbody:∀ (cdv:Value) (A:Around) (outer:List Env) (s:Shared) (H:Hp) (E:XK),Room k (A.deeper (envOfC q (defScope st) s.heap.objs.size f cdv))->QB tb (cxOf (CXF P w base) P w K mg base N q (defScope st) f cdv A outer s H E) (defBody st) g) :
  MakeD P w K mg base tb (k + 1) x C f ps (fun xs=>runB g (startT N xs)):=by
 simp only [QB_is] at *
 exact FS.DefI.fn D S hbody
theorem fnC {x:Str} {st:Stmt} {f c:Addr} {ps N:List Str} {k:Nat} {g:FSt} (D:DefCK K mg x st f c ps) (S:FnScope N ps (defScope st))
  (hbody:∀ (A:Around) (outer:List Env) (s:Shared) (H:Hp) (E:XK),Room k (A.deeper (envOfC x (defScope st) s.heap.objs.size f (.ref c)))->QB tb (cxOf (CXF P w base) P w K mg base N x (defScope st) f (.ref c) A outer s H E) (defBody st) g) :
  FnD P w K mg base tb (k + 1) x f ps (fun xs=>runB g (startT N xs)):=by
 simp only [QB_is] at *
 exact FS.DefCK.fn D S hbody
end
section
variable {tb:Tb} {X:Cx} {ρ:List Addr} {H:Hp} {n:Nat}
theorem b_clean {sts:List Stmt} {f:FSt} (hb:QB tb X sts f):QB tb X sts (sClean f):=by
 simp only [QB_is] at *
 exact FS.b_clean hb
theorem s_clean {st:Stmt} {f:FSt} (hb:QS tb X st f):QS tb X st (sClean f):=by
 simp only [QS_is] at *
 exact FS.s_clean hb
theorem e_clean {e:Expr} {f:FE} (he:QE tb X e f):QE tb X e (fClean f):=by
 simp only [QE_is] at *
 exact FS.e_clean he
end
section
variable {X:Cx} {pins:List (Addr × Obj)} {σ:L2.St} {H:Hp} {s:Shared} {h':Heap}
end
section
variable {tb:Tb} {X:Cx} {pos p pos':Pos} {e:Expr} {fe:FE}
end
section
variable {tb:Tb} {X:Cx} {pos p apos cpos:Pos} {a b e o:Expr} {es:List Expr} {fa fb fe fo:FE} {fs:FA}
end
section
variable {tb:Tb} {X:Cx} {pos p apos cpos:Pos} {a b e o:Expr} {es:List Expr} {fa fb fe fo:FE} {fs:FA}
end
section
variable {tb:Tb} {X:Cx} {pos p apos cpos:Pos} {a b e f o:Expr} {es:List Expr} {fa fb fe ff fo:FE} {fs:FA}
end
section
variable {tb:Tb} {X:Cx} {pos:Pos}
end
section
variable {tb:Tb} {X:Cx} {pos:Pos}
end
section
variable {tb:Tb} {X:Cx} {pos:Pos} {a b:Expr} {fa fb:FE}
theorem e_mulT (ha:QE tb X a fa) (hb:QE tb X b fb):QE tb X (.BinOp a .Mult b pos) (fOp gMul3 fa fb):=by
 simp only [QE_is] at *
 exact FS.e_mulT ha hb
end
section
variable {tb:Tb} {X:Cx}
theorem e_compE {elt a:Expr} {elts:List Expr} {x1} {tp p1' p2' cpos:Pos} {ifs:List Expr} {scope:Scope} {cl:List (Str × Addr)} {own xs:List Str} {pr:List Nat} {fi:FE} {g:FG} {ft:FT} {fe:FE} (hc:X.calm=true) (hgl:Gl X "enumerate") (hm:X.mg "enumerate" = none)
  (hclos:closureFor scope X.env=pure cl) (hcl:AllC X.env.cells cl) (cap:CapOk X scope cl pr xs) (hi:QE tb X a fi)
  (hg:InBlock X (own++xs) scope cl fun Y=>QG tb Y (.Tuple elts x1 tp) g) (ht:InBlock X (own++xs) scope cl fun Y=>QI tb Y ifs ft) (he:InBlock X (own++xs) scope cl fun Y=>QE tb Y elt fe)
  (hk:scope.kind=.function:=by rfl) (hcell:∀ y ∈ scope.names,y.2 ≠ .cell:=by decide) (hfree:∀ y ∈ scope.names,y.2=.free->y.1 ∈ xs:=by decide)
  (hnames:∀ x ∈ scope.names,x.2=.local->scope.names.lookup x.1=some .local:=by decide) (hs:∀ x,foldedSetIterable (.Call (.Name "enumerate" p1') [a] [] p2') X.env x=pure x:=by intro _;rfl) (hst:starEach [a] X.env=[(false,eval a X.env)]:=by rfl) :
  QE tb X (.ListComp elt [⟨.Tuple elts x1 tp,.Call (.Name "enumerate" p1') [a] [] p2',ifs,0⟩] scope cpos) (fCompE own.length pr fi g ft fe):=by
 simp only [QE_is,QG_is,QI_is] at *
 exact FS.e_compE hc hgl hm hclos hcl cap hi hg ht he hk hcell hfree hnames hs hst
end
section
variable {P:Program} {w:World} {A:Around} {E:Value->Shared->Prop} {s:Shared} {I:Addr} {fp wr:List Addr} {G:Array GenState->Array GenState->Prop} {n:Nat} {Pv:Nat->Value->Prop} {St:Nat->Shared->Prop}
end
section
variable {tb:Tb} {X:Cx} {pos:Pos}
theorem g_star {a b:Expr} {p3:Pos} {k:Nat} {gs:List FG} (hc:X.calm=true) (h:QGs tb X [a,b] gs) (h1:(assignEach [a,.Starred b p3] X.env).map (·.2)=(assignEach [a,b] X.env).map (·.2):=by rfl) (h2:(assignEach [a,.Starred b p3] X.env).length=2:=by rfl)
  (h3:(assignEach [a,.Starred b p3] X.env).findIdx? (·.1)=some 1:=by rfl):QG tb X (.Tuple [a,.Starred b p3] k pos) (gStar gs):=by
 simp only [QG_is,QGs_is] at *
 exact FS.g_star hc h h1 h2 h3
end
section
variable {tb:Tb} {X:Cx} {pos p pos':Pos} {e:Expr}
theorem s_forEX {elts:List Expr} {x1} {tp:Pos} {body:List Stmt} {fi:FE} {g:FG} {f:FSt} (hp:PassesOwn (model X.prog X.w) X.A X.env X.xe) (hc:X.calm=true) (hgl:Gl X "enumerate") (hmg:X.mg "enumerate" = none) (hi:QE tb X e fi) (hg:QG tb X (.Tuple elts x1 tp) g) (hb:QB tb X body f)
  (hs:∀ x,foldedSetIterable (.Call (.Name "enumerate" p) [e] [] pos') X.env x=pure x:=by intro _;rfl) (hst:starEach [e] X.env=[(false,eval e X.env)]:=by rfl) :
  QS tb X (.For (.Tuple elts x1 tp) (.Call (.Name "enumerate" p) [e] [] pos') body [] pos) (sForEX fi g f):=by
 simp only [QE_is,QS_is,QB_is,QG_is] at *
 exact FS.s_forEX hp hc hgl hmg hi hg hb hs hst
end
section
variable {tb:Tb} {X:Cx} {pos:Pos} {a b:Expr} {fa fb:FE} {F:Addr} {kvs:List (Str × Addr)} {pins:List (Addr × Obj)} {σ:L2.St} {H:Hp} {s:Shared}
theorem e_ixT (T:TopD X.prog X.w X.K F kvs) (ha:QE tb X a fa) (hb:QE tb X b fb) (hs:PlainIx b:=by intro _ _;rfl):QE tb X (.Subscript a b pos) (fOp (gIxT F kvs) fa fb):=by
 simp only [QE_is] at *
 exact FS.e_ixT T ha hb hs
theorem t_notInT (T:TopD X.prog X.w X.K F kvs) (ha:QE tb X a fa) (hb:QE tb X b fb) (hm:behindInMarks .NotIn b=false:=by rfl):QT tb X (.Compare a [.NotIn] [b] pos) (fB (fOp (gInT F kvs true) fa fb)):=by
 simp only [QE_is,QT_is] at *
 exact FS.t_notInT T ha hb hm
end
section
variable {tb:Tb} {X:Cx} {apos cpos:Pos} {o e f:Expr} {fo fe ff:FE} {td ty tx:TE} {F:Addr} {kvs:List (Str × Addr)}
theorem e_getT (T:TopD X.prog X.w X.K F kvs) (ho:QE tb X o fo) (he:QE tb X e fe) (hf:QE tb X f ff) (m:M2 X o "get" apos e f cpos:=by exact ⟨rfl,rfl,rfl,rfl⟩):QE tb X (.Call (.Attribute o "get" apos) [e,f] [] cpos) (fGetT F kvs fo fe ff):=by
 simp only [QE_is] at *
 exact FS.e_getT T ho he hf m
end
section
variable {tb:Tb} {X:Cx} {pos p:Pos} {e:Expr} {es:List Expr} {fs:FA}
theorem e_lenT {gt:GTup} (hgt:GtOk X.K gt) (hg:Gl X "len") (hm:X.mg "len" = none) (ha:QA tb X (e :: es) fs) (he:starEach (e :: es) X.env=(false,eval e X.env) :: starEach es X.env:=by rfl) (hpl:(backTo pos (starEach es X.env)).any (·.1)=false:=by rfl) :
  QE tb X (.Call (.Name "len" p) (e :: es) [] pos) (fCB (gLenT gt) fs):=by
 simp only [QE_is,QA_is] at *
 exact FS.e_lenT hgt hg hm ha he hpl
end
section
variable {X:Cx} {pins:List (Addr × Obj)} {σ:L2.St} {H:Hp} {s:Shared} {h':Heap}
end
section
variable {tb:Tb} {X:Cx} {pos p:Pos} {e f:Expr}
theorem e_compZ {gt:GTup} (hgt:GtOk X.K gt) {elt a b:Expr} {elts:List Expr} {x1} {tp p1' p2' cpos:Pos} {ifs:List Expr} {scope:Scope} {cl:List (Str × Addr)} {own xs:List Str} {pr:List Nat} {fi fj:FE} {g:FG} {ft:FT} {fe:FE} (hc:X.calm=true) (hgl:Gl X "zip") (hm:X.mg "zip" = none)
  (hclos:closureFor scope X.env=pure cl) (hcl:AllC X.env.cells cl) (cap:CapOk X scope cl pr xs) (hi:QE tb X a fi) (hj:QE tb X b fj)
  (hg:InBlock X (own++xs) scope cl fun Y=>QG tb Y (.Tuple elts x1 tp) g) (ht:InBlock X (own++xs) scope cl fun Y=>QI tb Y ifs ft) (he:InBlock X (own++xs) scope cl fun Y=>QE tb Y elt fe)
  (hk:scope.kind=.function:=by rfl) (hcell:∀ y ∈ scope.names,y.2 ≠ .cell:=by decide) (hfree:∀ y ∈ scope.names,y.2=.free->y.1 ∈ xs:=by decide)
  (hnames:∀ x ∈ scope.names,x.2=.local->scope.names.lookup x.1=some .local:=by decide) (hs:∀ x,foldedSetIterable (.Call (.Name "zip" p1') [a,b] [] p2') X.env x=pure x:=by intro _;rfl) (hst1:starEach [b] X.env=[(false,eval b X.env)]:=by rfl) (hst:starEach [a,b] X.env=[(false,eval a X.env),(false,eval b X.env)]:=by rfl) :
  QE tb X (.ListComp elt [⟨.Tuple elts x1 tp,.Call (.Name "zip" p1') [a,b] [] p2',ifs,0⟩] scope cpos) (fCompZ gt own.length pr fi fj g ft fe):=by
 simp only [QE_is,QG_is,QI_is] at *
 exact FS.e_compZ hgt hc hgl hm hclos hcl cap hi hj hg ht he hk hcell hfree hnames hs hst1 hst
end
section
variable {tb:Tb} {X:Cx}
theorem e_bad {e:Expr}:QE tb X e fBadE:=by
 simp only [QE_is] at *
 exact FS.e_bad 
end
end FQ
namespace FS
open PySem PySem.Spec PyProof.Rows L2 FX
section
variable {α β:Type} {h0:VH} {τ τ' τ'':Tau} {x y z:PV} {xs:List PV} {X:XV}
end
theorem at_end (h:VH) (o:VO) (r:VH):(h++o :: r)[h.length]?=some o:=by rw [List.getElem?_append_right (Nat.le_refl _)];simp
theorem at_pre {h:VH} {i:Nat} {o:VO} (e:VH) (q:h[i]?=some o):(h++e)[i]?=some o:=by
 rw [List.getElem?_append_left (List.getElem?_eq_some_iff.mp q).1];exact q
section
variable {α β:Type} {h h1 h2:VH} {τ τ1:Tau} {x y z v:PV} {xs:List PV} {fe fa fb:FE} {fs:FA} {f g:FSt} {t u:FT} {n i:Nat}
theorem bind_ok {m:M α} {k:α->M β} {a:α} (e:m h=.ok a h1):M.bind m k h=k a h1:=by unfold M.bind;rw [e]
theorem then_ok {m:M α} {k:α->VH->Fl} {a:α} (e:m h=.ok a h1):M.then m k h=k a h1:=by unfold M.then;rw [e]
theorem seq_ok (e:f τ h=.next τ1 h1):sSeq f g τ h=g τ1 h1:=by unfold sSeq;rw [e]
theorem seq_ret (e:f τ h=.ret v h1):sSeq f g τ h=.ret v h1:=by unfold sSeq;rw [e]
theorem asgN_ok (e:fe τ h=.ok v h1):sAsg fe (gN i) τ h=.next (τ.set i (some v)) h1:=by unfold sAsg M.then;rw [e];rfl
theorem if_ok {b:Bool} (e:t τ h=.ok b h1):sIf t f g τ h=if b=true then f τ h1 else g τ h1:=by unfold sIf;rw [then_ok e]
theorem ret_ok (e:fe τ h=.ok v h1):sRet fe τ h=.ret v h1:=by unfold sRet M.then;rw [e]
theorem var_ok (e:τ[i]?=some (some v)):fVar i τ h=.ok v h:=by unfold fVar;rw [e]
theorem c_ok:fC v τ h=.ok v h:=rfl
theorem op_ok {k:G2} (e1:fa τ h=.ok x h1) (e2:fb τ h1=.ok y h2):fOp k fa fb τ h=k x y h2:=by unfold fOp;rw [bind_ok e1,bind_ok e2]
theorem nil_ok:aNil τ h=.ok [] h:=rfl
theorem cons_ok (e1:fe τ h=.ok x h1) (e2:fs τ h1=.ok xs h2):aCons fe fs τ h=.ok (x :: xs) h2:=by unfold aCons;rw [bind_ok e1,bind_ok e2];rfl
theorem cb_ok {F:FF} (e:fs τ h=.ok xs h1):fCB F fs τ h=F xs h1:=by unfold fCB;rw [bind_ok e]
theorem call_ok {F:FF} (e:fs τ h=.ok xs h1) (hl:xs.length=n):fCall F n fs τ h=F xs h1:=by unfold fCall;rw [bind_ok e,if_pos hl]
theorem lst_ok (e:fs τ h=.ok xs h1) (hl:xs.length<=big):fLst fs τ h=.ok (.ref h1.length) (h1++[.lst xs]):=by unfold fLst;rw [bind_ok e,if_pos hl];rfl
theorem b_ok {k:Bool} (e:fe τ h=.ok (.bl k) h1):fB fe τ h=.ok k h1:=by unfold fB;rw [bind_ok e];rfl
theorem run_ret (e:f τ h=.ret v h1):runB f τ h=.ok v h1:=by unfold runB;rw [e]
theorem ls_at {l:Nat} (e:h[l]?=some (.lst xs)):lsOf h l=some xs:=by unfold lsOf;rw [e]
theorem ix_ok {l:Nat} {k:Int} (e:lsOf h l=some xs) (q:atI xs k=some v):gIx (.ref l) (.int k) h=.ok v h:=by unfold gIx;simp only [e,q]
end
end FS
namespace K61
open PySem PySem.Spec PyProof.Rows L2 FX FQ
open FS hiding a_cons b_bad b_clean b_cons b_forg b_one e_all e_and e_append e_bad e_bl e_bltn e_bms e_callD e_callWD e_chain e_clean e_compE e_compL e_compR e_compS e_compZ e_div e_eq e_fld e_get1 e_get2 e_getT e_glob e_ifExp e_in2 e_index e_int e_intC e_isi e_ix e_ix2 e_ixT e_len e_len2 e_lenT e_lst e_make0 e_max e_meth e_meth0 e_methK e_min e_mod e_mul e_mul2 e_mulT e_neg e_non e_not e_one e_or e_plus e_plus2 e_pow e_slice2 e_str e_strC e_sum e_tup e_tupC e_xfld ev g_set2 g_setL g_star g_tup gn gs_cons ifs_nil k_cons o_some s_asg s_clean s_expr s_fld s_forEX s_forL s_if s_raise s_raise1 s_ret t_eq t_ge t_gt t_in2 t_isN t_lt t_ne t_not t_notIn t_notInT t_truth t_val w_and w_and1 w_or w_or1 w_pt
def top (i:Nat):Stmt:=PySem.Challenge.pw_joinedfolk_k61_refusals_apart.main.body.getD i (.Pass ⟨0,0,0,0⟩)
def clsBody:Stmt->List Stmt
 | .ClassDef _ _ _ b ..=>b
 | _=>[]
def mst (i j:Nat):Stmt:=(clsBody (top i)).getD j (.Pass ⟨0,0,0,0⟩)
theorem hu40 {k:Nat} {A:Around} (hr:Room k A):A.units + 40 < cLine:=by have:=hr.un;omega
theorem hu40W {k:Nat} {A:Around} (hr:RoomW k A):A.units + 40 < cLine:=by have:=hr.un;omega
def itab:ITab:=[(.type "NoneType",.type "int",false),(.type "NoneType",.type "bool",false),(.type "NoneType",.type "str",false),(.type "NoneType",.type "tuple",false),(.type "NoneType",.type "list",false),(.type "bool",.type "int",true),(.type "bool",.type "bool",true),(.type "bool",.type "str",false),(.type "bool",.type "tuple",false),(.type "bool",.type "list",false),(.type "int",.type "int",true),(.type "int",.type "bool",false),(.type "int",.type "str",false),(.type "int",.type "tuple",false),(.type "int",.type "list",false),(.type "str",.type "int",false),(.type "str",.type "bool",false),(.type "str",.type "str",true),(.type "str",.type "tuple",false),(.type "str",.type "list",false),(.type "tuple",.type "int",false),(.type "tuple",.type "bool",false),(.type "tuple",.type "str",false),(.type "tuple",.type "tuple",true),(.type "tuple",.type "list",false),(.type "list",.type "int",false),(.type "list",.type "bool",false),(.type "list",.type "str",false),(.type "list",.type "tuple",false),(.type "list",.type "list",true),(.ref 44,.ref 75,false),(.ref 44,.ref 94,false),(.ref 44,.ref 137,false),(.ref 44,.ref 44,true),(.ref 44,.ref 56,false),(.ref 44,.ref 106,false),(.ref 44,.ref 118,false),(.ref 44,.ref 149,false),(.ref 44,.type "ValueError",true),(.ref 56,.ref 75,false),(.ref 56,.ref 94,false),(.ref 56,.ref 137,false),(.ref 56,.ref 44,false),(.ref 56,.ref 56,true),(.ref 56,.ref 106,false),(.ref 56,.ref 118,false),(.ref 56,.ref 149,false),(.ref 56,.type "ValueError",true),(.ref 106,.ref 75,false),(.ref 106,.ref 94,false),(.ref 106,.ref 137,false),(.ref 106,.ref 44,false),(.ref 106,.ref 56,false),(.ref 106,.ref 106,true),(.ref 106,.ref 118,false),(.ref 106,.ref 149,false),(.ref 106,.type "ValueError",true),(.ref 118,.ref 75,false),(.ref 118,.ref 94,false),(.ref 118,.ref 137,false),(.ref 118,.ref 44,false),(.ref 118,.ref 56,false),(.ref 118,.ref 106,false),(.ref 118,.ref 118,true),(.ref 118,.ref 149,false),(.ref 118,.type "ValueError",true),(.ref 149,.ref 75,false),(.ref 149,.ref 94,false),(.ref 149,.ref 137,false),(.ref 149,.ref 44,false),(.ref 149,.ref 56,false),(.ref 149,.ref 106,false),(.ref 149,.ref 118,false),(.ref 149,.ref 149,true),(.ref 149,.type "ValueError",true),(.ref 75,.ref 75,true),(.ref 75,.ref 94,false),(.ref 75,.ref 137,false),(.ref 75,.ref 44,false),(.ref 75,.ref 56,false),(.ref 75,.ref 106,false),(.ref 75,.ref 118,false),(.ref 75,.ref 149,false),(.ref 75,.type "ValueError",true),(.ref 94,.ref 75,false),(.ref 94,.ref 94,true),(.ref 94,.ref 137,false),(.ref 94,.ref 44,false),(.ref 94,.ref 56,false),(.ref 94,.ref 106,false),(.ref 94,.ref 118,false),(.ref 94,.ref 149,false),(.ref 94,.type "ValueError",true),(.ref 137,.ref 75,false),(.ref 137,.ref 94,false),(.ref 137,.ref 137,true),(.ref 137,.ref 44,false),(.ref 137,.ref 56,false),(.ref 137,.ref 106,false),(.ref 137,.ref 118,false),(.ref 137,.ref 149,false),(.ref 137,.type "ValueError",true)]
def gtS:List (Addr × List Str):=[(201,["one","group"]),(533,["word"]),(534,["kind","word","word"]),(535,["number"]),(536,["number","number"]),(537,["number","number"]),(538,["number","word"]),(539,["number","word","word or none"]),(540,["word","word"]),(541,["word","word"]),(542,["word","word"])]
def gtup:GTup:=gtS.map fun r=>(r.1,r.2.map PV.str)
def kvF:List (Str × Addr):=[("found",533),("come",534),("go",535),("put_in",536),("take_out",537),("call",538),("move",539),("merge",540),("trust",541),("mistrust",542)]
def stab:STab:=[(44,75,false),(44,94,false),(44,137,false),(44,31,true),(56,75,false),(56,94,false),(56,137,false),(56,31,true),(106,75,false),(106,94,false),(106,137,false),(106,31,true),(118,75,false),(118,94,false),(118,137,false),(118,31,true),(149,75,false),(149,94,false),(149,137,false),(149,31,true),(75,75,true),(75,94,false),(75,137,false),(75,31,true),(94,75,false),(94,94,true),(94,137,false),(94,31,true),(137,75,false),(137,94,false),(137,137,true),(137,31,true)]
def tb:Tb:=[(657,653,"_law_do.<locals>.<lambda>"),(674,672,"law.<locals>.<lambda>")]
def ct:CTab:=[(474,"homes"),(474,"given"),(474,"called"),(474,"bearers"),(474,"inside"),(474,"holders"),(474,"trusts"),(474,"deeds"),(474,"ledger"),(196,"steps")]
def xt:CTab:=[(75,"who"),(94,"taken"),(137,"row")]
section
variable {P:Program} {w:World} {K:PySem.W.Frag} {mg:Str->Option Value} {base:Heap}
abbrev s__law_cell:Stmt:=top 56
def N__law_cell:List Str:=["_law_script","_law_k"]
abbrev s__law_drawn:Stmt:=top 57
def N__law_drawn:List Str:=["_law_cell_here","_law_k","_law_more"]
abbrev s__law_roll:Stmt:=top 58
def N__law_roll:List Str:=["_law_dice","_law_many","_law_told_here"]
abbrev s__law_rounds:Stmt:=top 59
def N__law_rounds:List Str:=["_law_script","_law_most"]
abbrev s__law_word:Stmt:=top 60
def N__law_word:List Str:=["_law_e","_law_flags","_law_words"]
abbrev s_is_whole:Stmt:=top 17
def N_is_whole:List Str:=["thing"]
abbrev s_is_word:Stmt:=top 18
def N_is_word:List Str:=["thing"]
abbrev s_is_kind:Stmt:=top 19
def N_is_kind:List Str:=["thing"]
abbrev s_Ledger___init__:Stmt:=mst 12 0
def N_Ledger___init__:List Str:=["self"]
abbrev s_Ledger_begin:Stmt:=mst 12 1
def N_Ledger_begin:List Str:=["self"]
abbrev s_Ledger_put:Stmt:=mst 12 2
def N_Ledger_put:List Str:=["self","table","key","value"]
abbrev s_Roof___init__:Stmt:=mst 25 0
def N_Roof___init__:List Str:=["self"]
abbrev s_Roof_check_one:Stmt:=mst 25 22
def N_Roof_check_one:List Str:=["self","who"]
abbrev s_Roof_check_house:Stmt:=mst 25 24
def N_Roof_check_house:List Str:=["self","house"]
abbrev s_Roof_note:Stmt:=mst 25 26
def N_Roof_note:List Str:=["self","row"]
abbrev s_Roof_add_range:Stmt:=mst 25 27
def N_Roof_add_range:List Str:=["self","house","first"]
abbrev s_Roof_give_number:Stmt:=mst 25 28
def N_Roof_give_number:List Str:=["self","house","latest","many"]
abbrev s_Roof_found:Stmt:=mst 25 2
def N_Roof_found:List Str:=["self","house"]
abbrev s_Roof_come:Stmt:=mst 25 3
def N_Roof_come:List Str:=["self","kind","word","house","name","who"]
abbrev s_Roof_go:Stmt:=mst 25 4
def N_Roof_go:List Str:=["self","who","group","member"]
abbrev s_Roof_put_in:Stmt:=mst 25 5
def N_Roof_put_in:List Str:=["self","who","group"]
abbrev s_Roof_take_out:Stmt:=mst 25 6
def N_Roof_take_out:List Str:=["self","who","group"]
abbrev s_Roof_call:Stmt:=mst 25 7
def N_Roof_call:List Str:=["self","who","word","kind","before","house","name"]
abbrev s_Roof_move:Stmt:=mst 25 8
def N_Roof_move:List Str:=["self","who","house","word","kind","own","before","name"]
abbrev s_Roof_merge:Stmt:=mst 25 9
def N_Roof_merge:List Str:=["self","house","other","came","who","name"]
abbrev s_Roof_trust:Stmt:=mst 25 10
def N_Roof_trust:List Str:=["self","house","other"]
abbrev s_Roof_mistrust:Stmt:=mst 25 11
def N_Roof_mistrust:List Str:=["self","house","other"]
abbrev s_Roof_take_back:Stmt:=mst 25 12
def N_Roof_take_back:List Str:=["self"]
abbrev s_Roof_time:Stmt:=mst 25 13
def N_Roof_time:List Str:=["self"]
abbrev s_Roof_ranges:Stmt:=mst 25 15
def N_Roof_ranges:List Str:=["self","house"]
abbrev s_is_rule:Stmt:=top 34
def N_is_rule:List Str:=["thing","word","whom","deed"]
abbrev s_check_rules:Stmt:=top 35
def N_check_rules:List Str:=["rules"]
abbrev s_needless:Stmt:=top 38
def N_needless:List Str:=["roof","rules","needed","who","places"]
abbrev s_fits:Stmt:=top 43
def N_fits:List Str:=["part","form"]
abbrev s_is_row:Stmt:=top 44
def N_is_row:List Str:=["thing","deed","parts"]
abbrev s_is_number_text:Stmt:=top 45
def N_is_number_text:List Str:=["text"]
abbrev s_read_number:Stmt:=top 46
def N_read_number:List Str:=["text","number","sign"]
abbrev s_read_part:Stmt:=top 47
def N_read_part:List Str:=["text","form"]
abbrev s_read_row:Stmt:=top 48
def N_read_row:List Str:=["line","deed","rest","forms","row"]
abbrev s_read_journal:Stmt:=top 49
def N_read_journal:List Str:=["text","lines","rows","place","line","row"]
abbrev s_check_time:Stmt:=top 53
def N_check_time:List Str:=["roof","time"]
abbrev s_as_of:Stmt:=top 54
def N_as_of:List Str:=["roof","time"]
abbrev s__law_do:Stmt:=top 62
def N__law_do:List Str:=["_law_roof","_law_row","_law_term","_law_who","_law_more"]
abbrev s__law_alone:Stmt:=top 64
def N__law_alone:List Str:=["_law_e","_law_own","_law_some"]
abbrev s_law:Stmt:=top 65
def N_law:List Str:=["_law_script","_law_dice","_law_more","_law_roof","_law_row","_law_met_here"]
abbrev s__law_told:Stmt:=top 61
abbrev s__law_met:Stmt:=top 63
structure Txt (P:Program) (w:World) (K:PySem.W.Frag) (mg:Str->Option Value):Prop where
 isi:TabK K itab
 gt:GtOk K gtup
 st:STabK K stab
 ct:CTabK K ct
 xt:XTabK K xt
 g_SIGNS:∃ t,mg "SIGNS" = some (.str "abcdefghijklmnopqrstuvwxyz0123456789" t)
 g_KINDS:mg "KINDS" = some (.ref 201)
 g_MOST_SIGNS:∃ t,mg "MOST_SIGNS" = some (.int 8 t)
 g_RANGE_SIZE:∃ t,mg "RANGE_SIZE" = some (.int 100 t)
 g_FIRST_RANGE:∃ t,mg "FIRST_RANGE" = some (.int 100 t)
 g_LET:∃ t,mg "LET" = some (.str "let" t)
 g_BAR:∃ t,mg "BAR" = some (.str "bar" t)
 g_FIGURES:∃ t,mg "FIGURES" = some (.str "0123456789" t)
 g_NONE:∃ t,mg "NONE" = some (.str "-" t)
 g_RoofError:mg "RoofError" = some (.ref 31)
 g_BadName:mg "BadName" = some (.ref 44)
 g_NoHouse:mg "NoHouse" = some (.ref 56)
 g_NoOne:mg "NoOne" = some (.ref 75)
 g_Taken:mg "Taken" = some (.ref 94)
 g_BadRule:mg "BadRule" = some (.ref 106)
 g_BadTime:mg "BadTime" = some (.ref 118)
 g_BadJournal:mg "BadJournal" = some (.ref 137)
 g_Nothing:mg "Nothing" = some (.ref 149)
 g_FORMS:mg "FORMS" = some (.ref 532)
 x_BadName:PySem.W.excIn K 44 bmV "ValueError.__new__" = true
 x_NoHouse:PySem.W.excIn K 56 bmV "ValueError.__new__" = true
 x_BadRule:PySem.W.excIn K 106 bmV "ValueError.__new__" = true
 x_BadTime:PySem.W.excIn K 118 bmV "ValueError.__new__" = true
 x_Nothing:PySem.W.excIn K 149 bmV "ValueError.__new__" = true
 i_NoOne:XInit K 75 72 "who" "who"
 i_Taken:XInit K 94 91 "taken" "taken"
 i_BadJournal:XInit K 137 134 "row" "row"
 n_isinstance:mg "isinstance" = none
 n_len:mg "len" = none
 n_all:mg "all" = none
 n_sum:mg "sum" = none
 n_max:mg "max" = none
 n_min:mg "min" = none
 n_list:mg "list" = none
 n_int:mg "int" = none
 n_range:mg "range" = none
 n_str:mg "str" = none
 n_tuple:mg "tuple" = none
 n_bool:mg "bool" = none
 n_ValueError:mg "ValueError" = none
 n_enumerate:mg "enumerate" = none
 n_zip:mg "zip" = none
 d__law_cell:DefD K mg "_law_cell" s__law_cell 620 ["_law_script","_law_k"]
 d__law_drawn:DefD K mg "_law_drawn" s__law_drawn 627 ["_law_cell_here","_law_k"]
 d__law_roll:DefD K mg "_law_roll" s__law_roll 634 ["_law_dice","_law_many"]
 d__law_rounds:DefD K mg "_law_rounds" s__law_rounds 639 ["_law_script","_law_most"]
 d__law_word:DefD K mg "_law_word" s__law_word 644 ["_law_e"]
 d_is_whole:DefD K mg "is_whole" s_is_whole 208 ["thing"]
 d_is_word:DefD K mg "is_word" s_is_word 213 ["thing"]
 d_is_kind:DefD K mg "is_kind" s_is_kind 220 ["thing"]
 d_Ledger___init__:DefI K mg "Ledger" 196 "Ledger.__init__" s_Ledger___init__ 165 ["self"]
 d_Ledger_begin:DefM K 196 "begin" "Ledger.begin" s_Ledger_begin 172 ["self"]
 d_Ledger_put:DefM K 196 "put" "Ledger.put" s_Ledger_put 179 ["self","table","key","value"]
 d_Roof___init__:DefI K mg "Roof" 474 "Roof.__init__" s_Roof___init__ 248 ["self"]
 d_Roof_check_one:DefM K 474 "check_one" "Roof.check_one" s_Roof_check_one 401 ["self","who"]
 d_Roof_check_house:DefM K 474 "check_house" "Roof.check_house" s_Roof_check_house 415 ["self","house"]
 d_Roof_note:DefM K 474 "note" "Roof.note" s_Roof_note 429 ["self","row"]
 d_Roof_add_range:DefM K 474 "add_range" "Roof.add_range" s_Roof_add_range 436 ["self","house"]
 d_Roof_give_number:DefM K 474 "give_number" "Roof.give_number" s_Roof_give_number 443 ["self","house"]
 d_Roof_found:DefM K 474 "found" "Roof.found" s_Roof_found 262 ["self","house"]
 d_Roof_come:DefM K 474 "come" "Roof.come" s_Roof_come 269 ["self","kind","word","house"]
 d_Roof_go:DefM K 474 "go" "Roof.go" s_Roof_go 276 ["self","who"]
 d_Roof_put_in:DefM K 474 "put_in" "Roof.put_in" s_Roof_put_in 283 ["self","who","group"]
 d_Roof_take_out:DefM K 474 "take_out" "Roof.take_out" s_Roof_take_out 290 ["self","who","group"]
 d_Roof_call:DefM K 474 "call" "Roof.call" s_Roof_call 297 ["self","who","word"]
 d_Roof_move:DefMK K 474 "move" "Roof.move" s_Roof_move 305 ["self","who","house","word"] ["word"]
 d_Roof_merge:DefM K 474 "merge" "Roof.merge" s_Roof_merge 312 ["self","house","other"]
 d_Roof_trust:DefM K 474 "trust" "Roof.trust" s_Roof_trust 319 ["self","house","other"]
 d_Roof_mistrust:DefM K 474 "mistrust" "Roof.mistrust" s_Roof_mistrust 326 ["self","house","other"]
 d_Roof_take_back:DefM K 474 "take_back" "Roof.take_back" s_Roof_take_back 333 ["self"]
 d_Roof_time:DefM K 474 "time" "Roof.time" s_Roof_time 340 ["self"]
 d_Roof_ranges:DefM K 474 "ranges" "Roof.ranges" s_Roof_ranges 354 ["self","house"]
 d_is_rule:DefD K mg "is_rule" s_is_rule 507 ["thing"]
 d_check_rules:DefD K mg "check_rules" s_check_rules 512 ["rules"]
 d_needless:DefD K mg "needless" s_needless 531 ["roof","rules"]
 d_fits:DefD K mg "fits" s_fits 549 ["part","form"]
 d_is_row:DefD K mg "is_row" s_is_row 554 ["thing"]
 d_is_number_text:DefD K mg "is_number_text" s_is_number_text 559 ["text"]
 d_read_number:DefD K mg "read_number" s_read_number 566 ["text"]
 d_read_part:DefD K mg "read_part" s_read_part 573 ["text","form"]
 d_read_row:DefD K mg "read_row" s_read_row 578 ["line"]
 d_read_journal:DefD K mg "read_journal" s_read_journal 585 ["text"]
 d_check_time:DefD K mg "check_time" s_check_time 606 ["roof","time"]
 d_as_of:DefD K mg "as_of" s_as_of 613 ["roof","time"]
 d__law_do:DefCK K mg "_law_do" s__law_do 658 657 ["_law_roof","_law_row"]
 d__law_alone:DefD K mg "_law_alone" s__law_alone 670 ["_law_e","_law_own"]
 d_told:DefD K mg "_law_told" s__law_told 651 ["_law_deed"]
 d_met:DefD K mg "_law_met" s__law_met 665 ["_law_deed"]
 forms:TopD P w K 532 kvF
def Bas (mg:Str->Option Value) (base:Heap):Prop:=∀ c Q q,(c,Q,q) ∈ tb->PySem.W.CodeHd base c Q/\base.BuiltinsAt mg Q
def N_told:List Str:=["_law_deed","_law_e"]
theorem sc_told:FnScope N_told ["_law_deed"] (defScope s__law_told):=⟨rfl,rfl,rfl,by decide +kernel,rfl,by decide +kernel,by decide +kernel⟩
def g__law_cell:FSt:=(sSeq (sIf (fB (fOp gEq (fVar 0) (fLst aNil))) (sRet (fOp gMul (fVar 1) (fC (.int 7919)))) sNext) (sRet (fOp gPlus (fOp gIx (fVar 0) (fOp gMod (fVar 1) (fCB gLen (aCons (fVar 0) aNil)))) (fOp gMul (fOp gDiv (fVar 1) (fCB gLen (aCons (fVar 0) aNil))) (fC (.int 104729))))))
def F__law_cell:FF:=fun xs=>runB g__law_cell (startT N__law_cell xs)
theorem sc__law_cell:FnScope N__law_cell ["_law_script","_law_k"] (defScope s__law_cell):=⟨rfl,rfl,rfl,by decide +kernel,rfl,by decide +kernel,by decide +kernel⟩
theorem f__law_cell (T:Txt P w K mg) (B:Bas mg base):FnD P w K mg base tb 1 "_law_cell" 620 ["_law_script","_law_k"] F__law_cell:=by
 refine fnD (T.d__law_cell) (g:=g__law_cell) (N:=N__law_cell) sc__law_cell fun cdv A outer s H E hr=>?_
 exact (b_cons (s_if (t_eq (hu40 hr) (ev 0) (e_lst a_nil)) (b_one (s_ret (e_mul (ev 1) e_int))) b_nil)
  (b_one (s_ret (e_plus (e_ix (ev 0) (e_mod (ev 1) (e_len rfl T.n_len (a_cons (ev 0) a_nil stNe)))) (e_mul (e_div (ev 1) (e_len rfl T.n_len (a_cons (ev 0) a_nil stNe))) e_int)))))
def g__law_drawn:FSt:=(sSeq (sAsg (fOp gMod (fOp gPlus (fOp gMul (fVar 0) (fC (.int 6364136223846793005))) (fOp gMul (fOp gPlus (fVar 1) (fC (.int 1))) (fC (.int 1442695040888963407)))) (fC (.int 340282366920938463463374607431768211507))) (gN 2)) (sSeq (sAsg (fOp gMod (fOp gMul (fVar 2) (fVar 2)) (fC (.int 340282366920938463463374607431768211297))) (gN 2)) (sSeq (sAsg (fOp gMul (fOp gMul (fOp gPlus (fOp gMod (fVar 2) (fC (.int 18446744073709551557))) (fC (.int 1))) (fOp gPlus (fOp gDiv (fVar 2) (fC (.int 18446744073709551557))) (fC (.int 1)))) (fVar 2)) (gN 2)) (sRet (fOp gMod (fVar 2) (fC (.int 340282366920938463463374607431768211507)))))))
def F__law_drawn:FF:=fun xs=>runB g__law_drawn (startT N__law_drawn xs)
theorem sc__law_drawn:FnScope N__law_drawn ["_law_cell_here","_law_k"] (defScope s__law_drawn):=⟨rfl,rfl,rfl,by decide +kernel,rfl,by decide +kernel,by decide +kernel⟩
theorem f__law_drawn (T:Txt P w K mg) (B:Bas mg base):FnD P w K mg base tb 1 "_law_drawn" 627 ["_law_cell_here","_law_k"] F__law_drawn:=by
 refine fnD (T.d__law_drawn) (g:=g__law_drawn) (N:=N__law_drawn) sc__law_drawn fun cdv A outer s H E hr=>?_
 exact (b_cons (s_asg (e_mod (e_plus (e_mul (ev 0) e_int) (e_mul (e_plus (ev 1) e_int) e_int)) e_int) (gn 2 (hN:=sc__law_drawn.nd)))
  (b_cons (s_asg (e_mod (e_mul (ev 2) (ev 2)) e_int) (gn 2 (hN:=sc__law_drawn.nd)))
  (b_cons (s_asg (e_mul (e_mul (e_plus (e_mod (ev 2) e_int) e_int) (e_plus (e_div (ev 2) e_int) e_int)) (ev 2)) (gn 2 (hN:=sc__law_drawn.nd)))
  (b_one (s_ret (e_mod (ev 2) e_int))))))
def g__law_roll:FSt:=(sSeq (sIf (fB (fOp (gI fun i j=>decide (j<=i)) (fOp gIx (fVar 0) (fC (.int 0))) (fOp gPow (fC (.int 10)) (fC (.int 18))))) (sSeq (sAsg (fOp gMod (fOp gIx (fVar 0) (fC (.int 0))) (fVar 1)) (gN 2)) (sSeq (sAsg (fOp gDiv (fOp gIx (fVar 0) (fC (.int 0))) (fVar 1)) (gSetL (fVar 0) (fC (.int 0)))) (sRet (fVar 2)))) sNext) (sSeq (sAsg (fOp gPlus (fOp gIx (fVar 0) (fC (.int 1))) (fC (.int 1))) (gSetL (fVar 0) (fC (.int 1)))) (sRet (fOp gMod (fOp gDiv (fCall F__law_drawn 2 (aCons (fOp gIx (fVar 0) (fC (.int 0))) (aCons (fOp gIx (fVar 0) (fC (.int 1))) aNil))) (fC (.int 8))) (fVar 1)))))
def F__law_roll:FF:=fun xs=>runB g__law_roll (startT N__law_roll xs)
theorem sc__law_roll:FnScope N__law_roll ["_law_dice","_law_many"] (defScope s__law_roll):=⟨rfl,rfl,rfl,by decide +kernel,rfl,by decide +kernel,by decide +kernel⟩
theorem f__law_roll (T:Txt P w K mg) (B:Bas mg base):FnD P w K mg base tb 2 "_law_roll" 634 ["_law_dice","_law_many"] F__law_roll:=by
 refine fnD (T.d__law_roll) (g:=g__law_roll) (N:=N__law_roll) sc__law_roll fun cdv A outer s H E hr=>?_
 exact (b_cons (s_if (t_ge (e_ix (ev 0) e_int) (e_pow e_int e_int)) (b_cons (s_asg (e_mod (e_ix (ev 0) e_int) (ev 1)) (gn 2 (hN:=sc__law_roll.nd)))
  (b_cons (s_asg (e_div (e_ix (ev 0) e_int) (ev 1)) (g_setL (ev 0) e_int))
  (b_one (s_ret (ev 2))))) b_nil)
  (b_cons (s_asg (e_plus (e_ix (ev 0) e_int) e_int) (g_setL (ev 0) e_int))
  (b_one (s_ret (e_mod (e_div (e_callD (f__law_drawn T B) hr.m (a_cons (e_ix (ev 0) e_int) (a_cons (e_ix (ev 0) e_int) a_nil stSt) stSt)) e_int) (ev 1))))))
def g__law_rounds:FSt:=(sRet (fCompR 1 [0] (aCons (fCB gMax (aCons (fC (.int 1)) (aCons (fCB gMin (aCons (fVar 1) (aCons (fCB gLen (aCons (fVar 0) aNil)) aNil))) aNil))) aNil) (gN 0) tYes (fLst (aCons (fCall F__law_cell 2 (aCons (fVar 1) (aCons (fVar 0) aNil))) (aCons (fC (.int 0)) aNil)))))
def F__law_rounds:FF:=fun xs=>runB g__law_rounds (startT N__law_rounds xs)
theorem sc__law_rounds:FnScope N__law_rounds ["_law_script","_law_most"] (defScope s__law_rounds):=⟨rfl,rfl,rfl,by decide +kernel,rfl,by decide +kernel,by decide +kernel⟩
theorem f__law_rounds (T:Txt P w K mg) (B:Bas mg base):FnD P w K mg base tb 2 "_law_rounds" 639 ["_law_script","_law_most"] F__law_rounds:=by
 refine fnD (T.d__law_rounds) (g:=g__law_rounds) (N:=N__law_rounds) sc__law_rounds fun cdv A outer s H E hr=>?_
 exact (b_one (s_ret (e_compR rfl rfl T.n_range (own:=["_law_k"]) (xs:=["_law_script"]) (pr:=[0]) rfl ⟨rfl,trivial⟩ ⟨rfl,(by first | exact .inl rfl | exact .inr rfl),⟨rfl,rfl⟩,trivial⟩ (a_cons (e_max rfl rfl T.n_max (a_cons e_int (a_cons (e_min rfl rfl T.n_min (a_cons (ev 1) (a_cons (e_len rfl T.n_len (a_cons (ev 0) a_nil stNe)) a_nil stCl) stNe)) a_nil stCl) stCt)) a_nil stCl) (fun _ _ _=>gn 0 (hN:=(by decide +kernel:(["_law_k","_law_script"]:List Str).Nodup))) (fun _ _ _=>ifs_nil) (fun _ _ _=>(e_lst (a_cons (e_callD (f__law_cell T B) hr.m (a_cons (ev 1) (a_cons (ev 0) a_nil stNe) stNe)) (a_cons e_int a_nil stCt) stCl))))))
def g__law_word:FSt:=(sSeq (sAsg (fLst (aCons (fCB (gIsi itab) (aCons (fVar 0) (aCons (fC (.adr 75)) aNil))) (aCons (fCB (gIsi itab) (aCons (fVar 0) (aCons (fC (.adr 94)) aNil))) (aCons (fCB (gIsi itab) (aCons (fVar 0) (aCons (fC (.adr 137)) aNil))) (aCons (fCB (gIsi itab) (aCons (fVar 0) (aCons (fC (.adr 44)) aNil))) aNil))))) (gN 1)) (sSeq (sAsg (fOp gPlus (fVar 1) (fLst (aCons (fCB (gIsi itab) (aCons (fVar 0) (aCons (fC (.adr 56)) aNil))) (aCons (fCB (gIsi itab) (aCons (fVar 0) (aCons (fC (.adr 106)) aNil))) (aCons (fCB (gIsi itab) (aCons (fVar 0) (aCons (fC (.adr 118)) aNil))) aNil))))) (gN 1)) (sSeq (sExpr (fBMl gApp (fVar 1) (aCons (fCB (gIsi itab) (aCons (fVar 0) (aCons (fC (.adr 149)) aNil))) aNil))) (sSeq (sAsg (fLst (aCons (fC (.str "NoOne")) (aCons (fC (.str "Taken")) (aCons (fC (.str "BadJournal")) (aCons (fC (.str "BadName")) (aCons (fC (.str "NoHouse")) (aCons (fC (.str "BadRule")) (aCons (fC (.str "BadTime")) (aCons (fC (.str "Nothing")) aNil))))))))) (gN 2)) (sSeq (sIf (tOrF (fB (fOp gNe (fCB gSum (aCons (fCompL 1 [] (fVar 1) (gN 0) tYes (fCB gInt (aCons (fVar 0) aNil))) aNil)) (fC (.int 1)))) (tNotF (fB (fCB (gIsi itab) (aCons (fVar 0) (aCons (fC (.ty "ValueError")) aNil)))))) (sRet (fTup (aCons (fC (.str "refused")) (aCons (fC (.str "other")) aNil)))) sNext) (sRet (fTup (aCons (fC (.str "refused")) (aCons (fOp gIx (fVar 2) (fBMl gIdx (fVar 1) (aCons (fC (.bl true)) aNil))) aNil)))))))))
def F__law_word:FF:=fun xs=>runB g__law_word (startT N__law_word xs)
theorem sc__law_word:FnScope N__law_word ["_law_e"] (defScope s__law_word):=⟨rfl,rfl,rfl,by decide +kernel,rfl,by decide +kernel,by decide +kernel⟩
theorem f__law_word (T:Txt P w K mg):FnWD P w K mg base tb 1 "_law_word" 644 ["_law_e"] F__law_word:=by
 refine fnWD (T.d__law_word) (g:=g__law_word) (N:=N__law_word) sc__law_word fun cdv A outer s H hr=>?_
 exact (b_cons (s_asg (e_lst (a_cons (e_isi T.isi rfl T.n_isinstance (a_cons (ev 0) (a_cons (e_glob (v:=(.adr 75)) (w:=(.ref 75)) rfl T.g_NoOne (by first | exact ⟨_,rfl⟩ | rfl) fun _ _=>rfl) a_nil stNe) stNe)) (a_cons (e_isi T.isi rfl T.n_isinstance (a_cons (ev 0) (a_cons (e_glob (v:=(.adr 94)) (w:=(.ref 94)) rfl T.g_Taken (by first | exact ⟨_,rfl⟩ | rfl) fun _ _=>rfl) a_nil stNe) stNe)) (a_cons (e_isi T.isi rfl T.n_isinstance (a_cons (ev 0) (a_cons (e_glob (v:=(.adr 137)) (w:=(.ref 137)) rfl T.g_BadJournal (by first | exact ⟨_,rfl⟩ | rfl) fun _ _=>rfl) a_nil stNe) stNe)) (a_cons (e_isi T.isi rfl T.n_isinstance (a_cons (ev 0) (a_cons (e_glob (v:=(.adr 44)) (w:=(.ref 44)) rfl T.g_BadName (by first | exact ⟨_,rfl⟩ | rfl) fun _ _=>rfl) a_nil stNe) stNe)) a_nil stCl) stCl) stCl) stCl)) (gn 1 (hN:=sc__law_word.nd)))
  (b_cons (s_asg (e_plus (ev 1) (e_lst (a_cons (e_isi T.isi rfl T.n_isinstance (a_cons (ev 0) (a_cons (e_glob (v:=(.adr 56)) (w:=(.ref 56)) rfl T.g_NoHouse (by first | exact ⟨_,rfl⟩ | rfl) fun _ _=>rfl) a_nil stNe) stNe)) (a_cons (e_isi T.isi rfl T.n_isinstance (a_cons (ev 0) (a_cons (e_glob (v:=(.adr 106)) (w:=(.ref 106)) rfl T.g_BadRule (by first | exact ⟨_,rfl⟩ | rfl) fun _ _=>rfl) a_nil stNe) stNe)) (a_cons (e_isi T.isi rfl T.n_isinstance (a_cons (ev 0) (a_cons (e_glob (v:=(.adr 118)) (w:=(.ref 118)) rfl T.g_BadTime (by first | exact ⟨_,rfl⟩ | rfl) fun _ _=>rfl) a_nil stNe) stNe)) a_nil stCl) stCl) stCl))) (gn 1 (hN:=sc__law_word.nd)))
  (b_cons (s_expr (e_append (ev 1) (a_cons (e_isi T.isi rfl T.n_isinstance (a_cons (ev 0) (a_cons (e_glob (v:=(.adr 149)) (w:=(.ref 149)) rfl T.g_Nothing (by first | exact ⟨_,rfl⟩ | rfl) fun _ _=>rfl) a_nil stNe) stNe)) a_nil stCl)))
  (b_cons (s_asg (e_lst (a_cons e_str (a_cons e_str (a_cons e_str (a_cons e_str (a_cons e_str (a_cons e_str (a_cons e_str (a_cons e_str a_nil stCt) stCt) stCt) stCt) stCt) stCt) stCt) stCt)) (gn 2 (hN:=sc__law_word.nd)))
  (b_cons (s_if (w_pt (w_or (t_ne (hu40W hr) (e_sum rfl T.n_sum (a_cons (e_compL (own:=["_law_flag"]) (xs:=[]) (pr:=[]) rfl trivial trivial (ev 1) (fun _ _ _=>gn 0 (hN:=(by decide +kernel:(["_law_flag"]:List Str).Nodup))) (fun _ _ _=>ifs_nil) (fun _ _ _=>(e_intC rfl T.n_int (a_cons (ev 0) a_nil stNe)))) a_nil)) e_int) (w_or1 (t_not (t_val (e_isi T.isi rfl T.n_isinstance (a_cons (ev 0) (a_cons (e_bltn (v:=.ty "ValueError") (w:=.ty "ValueError") rfl T.n_ValueError (by first | rfl | decide +kernel) rfl fun _ _=>rfl) a_nil stNe) stNe))))))) (b_one (s_ret (e_tup (a_cons e_str (a_cons e_str a_nil stCt) stCt)))) b_nil)
  (b_one (s_ret (e_tup (a_cons e_str (a_cons (e_ix (ev 2) (e_index (ev 1) (a_cons e_bl a_nil stCt))) a_nil stSt) stCt)))))))))
def fh_told:FH:=hCons stab 75 1 2 (sRet (fOp gPlus2 (fCallW F__law_word 1 (aCons (fVar 1) aNil)) (fTup (aCons (fXFld xt "who" (fVar 1)) aNil)))) (hCons stab 94 1 2 (sRet (fOp gPlus2 (fCallW F__law_word 1 (aCons (fVar 1) aNil)) (fTup (aCons (fXFld xt "taken" (fVar 1)) aNil)))) (hCons stab 137 1 2 sBad (hCons stab 31 1 2 (sRet (fCallW F__law_word 1 (aCons (fVar 1) aNil))) hNil)))
def freeOk (ns:List (Str × NameKind)) (clos:List (Str × Addr)):Bool:=ns.all fun y=>match y.2 with
 | .cell=>false
 | .local=>false
 | .free=>(clos.lookup y.1).isSome
 | _=>true
theorem freeOk_is {ns:List (Str × NameKind)} {clos:List (Str × Addr)} (h:freeOk ns clos=true):∀ y ∈ ns,y.2 ≠ .cell/\y.2 ≠ .local/\(y.2=.free->(clos.lookup y.1).isSome=true):=fun y hy=>by
 have:=List.all_eq_true.mp h y hy
 cases e:y.2 <;> rw [e] at this <;> simp_all
theorem e_toldD {X:Cx} {k:Nat} {params:Arguments} {body:Expr} {scope:Scope} {lpos tp pos:Pos} {clos:List (Str × Addr)} {pr:List Nat} {xs:List Str} {fE:FE} {c Pt:Addr} {q:Str} (T:Txt P w K mg) (hr:Room (k + 2) X.A) (L:LamAt X tb c Pt q)
  (hcl:closureFor scope X.env=pure clos) (hall:AllC X.env.cells clos) (cap:CapOk X scope clos pr xs)
  (hE:∀ (A:Around) (stk:List Env) (Lz g:Addr) (c':Addr) (s:Shared) (H:Hp) (xe:Value->Shared->Prop),Room k (A.deeper (lamEnv scope Lz clos (q++".<locals>.") g (.ref c')))->EOk tb (cxT P w K mg base A stk xs (lamEnv scope Lz clos (q++".<locals>.") g (.ref c')) s H xe) body fE)
  (hX:X.prog=P/\X.w=w/\X.K=K/\X.mg=mg/\X.base=base:=by exact ⟨rfl,rfl,rfl,rfl,rfl⟩) (hq:q=X.env.qual++"<lambda>" := by rfl) (hcalm:X.calm=true:=by rfl) (hg:Gl X "_law_told" := by rfl) (hdef:defaultsOf params X.env=([],[]):=by rfl)
  (hbind:∀ pm' c' ctv,bindArgs (PySem.W.kla_fn "<lambda>" q params body scope clos pm' (.ref c') ctv) ⟨[],[]⟩=pure []:=by intros;rfl) (hsk:scope.kind=.function:=by rfl) (hco:scope.isCoroutine=false:=by rfl) (hgen:scope.isGenerator=false:=by rfl)
  (hfree:freeOk scope.names clos=true:=by rfl) :
  EOk tb X (.Call (.Name "_law_told" tp) [.Lambda params body scope lpos] [] pos) (fTold pr fE fh_told):=by
 obtain ⟨fd,F,hb,hm⟩:=T.d_told
 obtain ⟨oc,od,kV,doc,pm,an,cdv,ct,osl,rfl,lk,hcd⟩:=F.ex
 refine e_told (k:=k) (Nt:=N_told) hX hcalm lk hcd sc_told rfl hg hm F.kp hb hr L hq hdef hcl hall cap hbind hsk hco hgen (freeOk_is hfree) (fun A outer s H E hr2=>?_) hE
 have hw:RoomW 1 (A.deeper (envOfC "_law_told" (defScope s__law_told) s.heap.objs.size 651 cdv)):=⟨(hr2.mono (by omega:1<=k + 1)).dp,(hr2.mono (by omega:1<=k + 1)).un⟩
 refine hs_cons rfl ⟨rfl,rfl⟩ (fun _=>rfl) T.st rfl T.g_NoOne sc_told.nd (i:=1) rfl rfl (fun _=>FS.b_one (FS.s_ret (FS.e_plus2 (FS.e_callWD (X:=Cx.hold (cxOf (CXF P w base) P w K mg base N_told "_law_told" (defScope s__law_told) 651 cdv A outer s H E) _ _) (f__law_word T) ⟨hw.dp,hw.un⟩ (FS.a_cons (FS.ev 1) FS.a_nil)) (FS.e_tup (FS.a_cons (FS.e_xfld T.xt (FS.ev 1)) FS.a_nil))))) ?_
 refine hs_cons rfl ⟨rfl,rfl⟩ (fun _=>rfl) T.st rfl T.g_Taken sc_told.nd (i:=1) rfl rfl (fun _=>FS.b_one (FS.s_ret (FS.e_plus2 (FS.e_callWD (X:=Cx.hold (cxOf (CXF P w base) P w K mg base N_told "_law_told" (defScope s__law_told) 651 cdv A outer s H E) _ _) (f__law_word T) ⟨hw.dp,hw.un⟩ (FS.a_cons (FS.ev 1) FS.a_nil)) (FS.e_tup (FS.a_cons (FS.e_xfld T.xt (FS.ev 1)) FS.a_nil))))) ?_
 refine hs_cons rfl ⟨rfl,rfl⟩ (fun _=>rfl) T.st rfl T.g_BadJournal sc_told.nd (i:=1) rfl rfl (fun _=>FS.b_bad) ?_
 refine hs_cons rfl ⟨rfl,rfl⟩ (fun _=>rfl) T.st rfl T.g_RoofError sc_told.nd (i:=1) rfl rfl (fun _=>FS.b_one (FS.s_ret (FS.e_callWD (X:=Cx.hold (cxOf (CXF P w base) P w K mg base N_told "_law_told" (defScope s__law_told) 651 cdv A outer s H E) _ _) (f__law_word T) ⟨hw.dp,hw.un⟩ (FS.a_cons (FS.ev 1) FS.a_nil)))) hs_nil
theorem e_toldQ {X:Cx} {k:Nat} {params:Arguments} {body:Expr} {scope:Scope} {lpos tp pos:Pos} {clos:List (Str × Addr)} {pr:List Nat} {xs:List Str} {fE:FE} {c Pt:Addr} {q:Str} (T:Txt P w K mg) (hr:Room (k + 2) X.A) (L:LamAt X tb c Pt q)
  (hcl:closureFor scope X.env=pure clos) (hall:AllC X.env.cells clos) (cap:CapOk X scope clos pr xs)
  (hE:∀ (A:Around) (stk:List Env) (Lz g:Addr) (c':Addr) (s:Shared) (H:Hp) (xe:Value->Shared->Prop),Room k (A.deeper (lamEnv scope Lz clos (q++".<locals>.") g (.ref c')))->QE tb (cxT P w K mg base A stk xs (lamEnv scope Lz clos (q++".<locals>.") g (.ref c')) s H xe) body fE)
  (hX:X.prog=P/\X.w=w/\X.K=K/\X.mg=mg/\X.base=base:=by exact ⟨rfl,rfl,rfl,rfl,rfl⟩) (hq:q=X.env.qual++"<lambda>" := by rfl) (hcalm:X.calm=true:=by rfl) (hg:Gl X "_law_told" := by rfl) (hdef:defaultsOf params X.env=([],[]):=by rfl)
  (hbind:∀ pm' c' ctv,bindArgs (PySem.W.kla_fn "<lambda>" q params body scope clos pm' (.ref c') ctv) ⟨[],[]⟩=pure []:=by intros;rfl) (hsk:scope.kind=.function:=by rfl) (hco:scope.isCoroutine=false:=by rfl) (hgen:scope.isGenerator=false:=by rfl)
  (hfree:freeOk scope.names clos=true:=by rfl) :
  QE tb X (.Call (.Name "_law_told" tp) [.Lambda params body scope lpos] [] pos) (fTold pr fE fh_told):=by
 simp only [QE_is] at *
 exact e_toldD T hr L hcl hall cap hE hX hq hcalm hg hdef hbind hsk hco hgen hfree
theorem lamAt__law_do {A:Around} {outer:List Env} {s:Shared} {H:Hp} {E:XK} (B:Bas mg base):LamAt (cxOf (CXF P w base) P w K mg base N__law_do "_law_do" (defScope s__law_do) 658 (.ref 657) A outer s H E) tb 657 653 "_law_do.<locals>.<lambda>" :=
 ⟨rfl,.head _,fun c' q' h=>by simp [tb] at h;exact h.2,(B _ _ _ (.head _)).1,by decide,(B _ _ _ (.head _)).2⟩
theorem lamAt_law {A:Around} {outer:List Env} {s:Shared} {H:Hp} {E:XK} (B:Bas mg base):LamAt (cxOf (CXF P w base) P w K mg base N_law "law" (defScope s_law) 675 (.ref 674) A outer s H E) tb 674 672 "law.<locals>.<lambda>" :=
 ⟨rfl,.tail _ (.head _),fun c' q' h=>by simp [tb] at h;exact h.2,(B _ _ _ (.tail _ (.head _))).1,by decide,(B _ _ _ (.tail _ (.head _))).2⟩
def fh_met:FH:=hCons stab 31 1 2 (sRet (fVar 1)) hNil
def N_met:List Str:=["_law_deed","_law_e"]
theorem sc_met:FnScope N_met ["_law_deed"] (defScope s__law_met):=⟨rfl,rfl,rfl,by decide +kernel,rfl,by decide +kernel,by decide +kernel⟩
theorem e_metD {X:Cx} {k:Nat} {params:Arguments} {body:Expr} {scope:Scope} {lpos tp pos:Pos} {clos:List (Str × Addr)} {pr:List Nat} {xs:List Str} {fE:FE} {c Pt:Addr} {q:Str} (T:Txt P w K mg) (hr:Room (k + 2) X.A) (L:LamAt X tb c Pt q)
  (hcl:closureFor scope X.env=pure clos) (hall:AllC X.env.cells clos) (cap:CapOk X scope clos pr xs)
  (hE:∀ (A:Around) (stk:List Env) (Lz g:Addr) (c':Addr) (s:Shared) (H:Hp) (xe:Value->Shared->Prop),Room k (A.deeper (lamEnv scope Lz clos (q++".<locals>.") g (.ref c')))->EOk tb (cxT P w K mg base A stk xs (lamEnv scope Lz clos (q++".<locals>.") g (.ref c')) s H xe) body fE)
  (hX:X.prog=P/\X.w=w/\X.K=K/\X.mg=mg/\X.base=base:=by exact ⟨rfl,rfl,rfl,rfl,rfl⟩) (hq:q=X.env.qual++"<lambda>" := by rfl) (hcalm:X.calm=true:=by rfl) (hg:Gl X "_law_met" := by rfl) (hdef:defaultsOf params X.env=([],[]):=by rfl)
  (hbind:∀ pm' c' ctv,bindArgs (PySem.W.kla_fn "<lambda>" q params body scope clos pm' (.ref c') ctv) ⟨[],[]⟩=pure []:=by intros;rfl) (hsk:scope.kind=.function:=by rfl) (hco:scope.isCoroutine=false:=by rfl) (hgen:scope.isGenerator=false:=by rfl)
  (hfree:freeOk scope.names clos=true:=by rfl) :
  EOk tb X (.Call (.Name "_law_met" tp) [.Lambda params body scope lpos] [] pos) (fMet pr fE fh_met):=by
 obtain ⟨fd,F,hb,hm⟩:=T.d_met
 obtain ⟨oc,od,kV,doc,pm,an,cdv,ct,osl,rfl,lk,hcd⟩:=F.ex
 refine e_met (k:=k) (Nt:=N_met) hX hcalm lk hcd sc_met rfl hg hm F.kp hb hr L hq hdef hcl hall cap hbind hsk hco hgen (freeOk_is hfree) (fun A outer s H E hr2=>?_) hE
 refine hs_cons rfl ⟨rfl,rfl⟩ (fun _=>rfl) T.st rfl T.g_RoofError sc_met.nd (i:=1) rfl rfl (fun _=>FS.b_one (FS.s_ret (FS.ev 1))) hs_nil
theorem e_metQ {X:Cx} {k:Nat} {params:Arguments} {body:Expr} {scope:Scope} {lpos tp pos:Pos} {clos:List (Str × Addr)} {pr:List Nat} {xs:List Str} {fE:FE} {c Pt:Addr} {q:Str} (T:Txt P w K mg) (hr:Room (k + 2) X.A) (L:LamAt X tb c Pt q)
  (hcl:closureFor scope X.env=pure clos) (hall:AllC X.env.cells clos) (cap:CapOk X scope clos pr xs)
  (hE:∀ (A:Around) (stk:List Env) (Lz g:Addr) (c':Addr) (s:Shared) (H:Hp) (xe:Value->Shared->Prop),Room k (A.deeper (lamEnv scope Lz clos (q++".<locals>.") g (.ref c')))->QE tb (cxT P w K mg base A stk xs (lamEnv scope Lz clos (q++".<locals>.") g (.ref c')) s H xe) body fE)
  (hX:X.prog=P/\X.w=w/\X.K=K/\X.mg=mg/\X.base=base:=by exact ⟨rfl,rfl,rfl,rfl,rfl⟩) (hq:q=X.env.qual++"<lambda>" := by rfl) (hcalm:X.calm=true:=by rfl) (hg:Gl X "_law_met" := by rfl) (hdef:defaultsOf params X.env=([],[]):=by rfl)
  (hbind:∀ pm' c' ctv,bindArgs (PySem.W.kla_fn "<lambda>" q params body scope clos pm' (.ref c') ctv) ⟨[],[]⟩=pure []:=by intros;rfl) (hsk:scope.kind=.function:=by rfl) (hco:scope.isCoroutine=false:=by rfl) (hgen:scope.isGenerator=false:=by rfl)
  (hfree:freeOk scope.names clos=true:=by rfl) :
  QE tb X (.Call (.Name "_law_met" tp) [.Lambda params body scope lpos] [] pos) (fMet pr fE fh_met):=by
 simp only [QE_is] at *
 exact e_metD T hr L hcl hall cap hE hX hq hcalm hg hdef hbind hsk hco hgen hfree
def g_is_whole:FSt:=(sRet (fAnd (fCB (gIsi itab) (aCons (fVar 0) (aCons (fC (.ty "int")) aNil))) (fNot (fCB (gIsi itab) (aCons (fVar 0) (aCons (fC (.ty "bool")) aNil))))))
def F_is_whole:FF:=fun xs=>runB g_is_whole (startT N_is_whole xs)
theorem sc_is_whole:FnScope N_is_whole ["thing"] (defScope s_is_whole):=⟨rfl,rfl,rfl,by decide +kernel,rfl,by decide +kernel,by decide +kernel⟩
theorem f_is_whole (T:Txt P w K mg) (B:Bas mg base):FnD P w K mg base tb 1 "is_whole" 208 ["thing"] F_is_whole:=by
 refine fnD (T.d_is_whole) (g:=g_is_whole) (N:=N_is_whole) sc_is_whole fun cdv A outer s H E hr=>?_
 exact (b_one (s_ret (e_and (e_isi T.isi rfl T.n_isinstance (a_cons (ev 0) (a_cons (e_bltn (v:=.ty "int") (w:=.ty "int") rfl T.n_int (by first | rfl | decide +kernel) rfl fun _ _=>rfl) a_nil stNe) stNe)) (e_one (e_not (e_isi T.isi rfl T.n_isinstance (a_cons (ev 0) (a_cons (e_bltn (v:=.ty "bool") (w:=.ty "bool") rfl T.n_bool (by first | rfl | decide +kernel) rfl fun _ _=>rfl) a_nil stNe) stNe)))))))
def g_is_word:FSt:=(sSeq (sIf (tNotF (fB (fCB (gIsi itab) (aCons (fVar 0) (aCons (fC (.ty "str")) aNil))))) (sRet (fC (.bl false))) sNext) (sRet (fAnd (fChain (gI fun i j=>decide (i<=j)) (gI fun i j=>decide (i<=j)) (fC (.int 1)) (fCB gLen2 (aCons (fVar 0) aNil)) (fC (.int 8))) (fCB gAll (aCons (fCompS 1 [] (fVar 0) (gN 0) tYes (fOp (gIn2 gtup) (fVar 0) (fC (.str "abcdefghijklmnopqrstuvwxyz0123456789")))) aNil)))))
def F_is_word:FF:=fun xs=>runB g_is_word (startT N_is_word xs)
theorem sc_is_word:FnScope N_is_word ["thing"] (defScope s_is_word):=⟨rfl,rfl,rfl,by decide +kernel,rfl,by decide +kernel,by decide +kernel⟩
theorem f_is_word (T:Txt P w K mg) (B:Bas mg base):FnD P w K mg base tb 1 "is_word" 213 ["thing"] F_is_word:=by
 refine fnD (T.d_is_word) (g:=g_is_word) (N:=N_is_word) sc_is_word fun cdv A outer s H E hr=>?_
 exact (b_cons (s_if (t_not (t_val (e_isi T.isi rfl T.n_isinstance (a_cons (ev 0) (a_cons (e_bltn (v:=.ty "str") (w:=.ty "str") rfl T.n_str (by first | rfl | decide +kernel) rfl fun _ _=>rfl) a_nil stNe) stNe)))) (b_one (s_ret e_bl)) b_nil)
  (b_one (s_ret (e_and (e_chain op_le (o_I _) op_le (o_I _) e_int (e_len2 rfl T.n_len (a_cons (ev 0) a_nil stNe)) (e_glob (v:=(.int 8)) (w:=(.int 8)) rfl T.g_MOST_SIGNS.choose_spec (by first | exact ⟨_,rfl⟩ | rfl) fun _ _=>rfl)) (e_one (e_all rfl T.n_all (a_cons (e_compS rfl (own:=["sign"]) (xs:=[]) (pr:=[]) rfl trivial trivial (ev 0) (fun _ _ _=>gn 0 (hN:=(by decide +kernel:(["sign"]:List Str).Nodup))) (fun _ _ _=>ifs_nil) (fun _ _ _=>(e_in2 (hu40 hr) T.gt (ev 0) (e_glob (v:=(.str "abcdefghijklmnopqrstuvwxyz0123456789")) (w:=(.str "abcdefghijklmnopqrstuvwxyz0123456789")) rfl T.g_SIGNS.choose_spec (by first | exact ⟨_,rfl⟩ | rfl) fun _ _=>rfl)))) a_nil)))))))
def g_is_kind:FSt:=(sRet (fAnd (fCB (gIsi itab) (aCons (fVar 0) (aCons (fC (.ty "str")) aNil))) (fOp (gIn2 gtup) (fVar 0) (fC (.adr 201)))))
def F_is_kind:FF:=fun xs=>runB g_is_kind (startT N_is_kind xs)
theorem sc_is_kind:FnScope N_is_kind ["thing"] (defScope s_is_kind):=⟨rfl,rfl,rfl,by decide +kernel,rfl,by decide +kernel,by decide +kernel⟩
theorem f_is_kind (T:Txt P w K mg) (B:Bas mg base):FnD P w K mg base tb 1 "is_kind" 220 ["thing"] F_is_kind:=by
 refine fnD (T.d_is_kind) (g:=g_is_kind) (N:=N_is_kind) sc_is_kind fun cdv A outer s H E hr=>?_
 exact (b_one (s_ret (e_and (e_isi T.isi rfl T.n_isinstance (a_cons (ev 0) (a_cons (e_bltn (v:=.ty "str") (w:=.ty "str") rfl T.n_str (by first | rfl | decide +kernel) rfl fun _ _=>rfl) a_nil stNe) stNe)) (e_one (e_in2 (hu40 hr) T.gt (ev 0) (e_glob (v:=(.adr 201)) (w:=(.ref 201)) rfl T.g_KINDS (by first | exact ⟨_,rfl⟩ | rfl) fun _ _=>rfl))))))
def g_Ledger___init__:FSt:=(sFldF ct "steps" (fVar 0) (fLst aNil))
def F_Ledger___init__:FF:=fun xs=>runB g_Ledger___init__ (startT N_Ledger___init__ xs)
theorem sc_Ledger___init__:FnScope N_Ledger___init__ ["self"] (defScope s_Ledger___init__):=⟨rfl,rfl,rfl,by decide +kernel,rfl,by decide +kernel,by decide +kernel⟩
theorem f_Ledger___init__ (T:Txt P w K mg) (B:Bas mg base):MakeD P w K mg base tb 1 "Ledger" 196 165 ["self"] F_Ledger___init__:=by
 refine fnI (T.d_Ledger___init__) (g:=g_Ledger___init__) (N:=N_Ledger___init__) sc_Ledger___init__ fun cdv A outer s H E hr=>?_
 exact (b_one (s_fld T.ct (ev 0) (e_lst a_nil)))
def g_Ledger_begin:FSt:=(sExpr (fBMl gApp (fFld ct "steps" (fVar 0)) (aCons (fLst aNil) aNil)))
def F_Ledger_begin:FF:=fun xs=>runB g_Ledger_begin (startT N_Ledger_begin xs)
theorem sc_Ledger_begin:FnScope N_Ledger_begin ["self"] (defScope s_Ledger_begin):=⟨rfl,rfl,rfl,by decide +kernel,rfl,by decide +kernel,by decide +kernel⟩
theorem f_Ledger_begin (T:Txt P w K mg) (B:Bas mg base):MethD P w K mg base tb 1 196 "begin" 172 ["self"] F_Ledger_begin:=by
 refine fnM (T.d_Ledger_begin) (g:=g_Ledger_begin) (N:=N_Ledger_begin) sc_Ledger_begin fun cdv A outer s H E hr=>?_
 exact (b_one (s_expr (e_append (e_fld T.ct (ev 0)) (a_cons (e_lst a_nil) a_nil stLt))))
def g_Ledger_put:FSt:=(sSeq (sExpr (fBMl gApp (fOp gIx2 (fFld ct "steps" (fVar 0)) (fUn gNeg (fC (.int 1)))) (aCons (fTup (aCons (fVar 1) (aCons (fVar 2) (aCons (fGet1 (fVar 1) (fVar 2)) aNil)))) aNil))) (sAsg (fVar 3) (gSet2 (fVar 1) (fVar 2))))
def F_Ledger_put:FF:=fun xs=>runB g_Ledger_put (startT N_Ledger_put xs)
theorem sc_Ledger_put:FnScope N_Ledger_put ["self","table","key","value"] (defScope s_Ledger_put):=⟨rfl,rfl,rfl,by decide +kernel,rfl,by decide +kernel,by decide +kernel⟩
theorem f_Ledger_put (T:Txt P w K mg) (B:Bas mg base):MethD P w K mg base tb 1 196 "put" 179 ["self","table","key","value"] F_Ledger_put:=by
 refine fnM (T.d_Ledger_put) (g:=g_Ledger_put) (N:=N_Ledger_put) sc_Ledger_put fun cdv A outer s H E hr=>?_
 exact (b_cons (s_expr (e_append (e_ix2 (hu40 hr) (e_fld T.ct (ev 0)) (e_neg e_int)) (a_cons (e_tup (a_cons (ev 1) (a_cons (ev 2) (a_cons (e_get1 (hu40 hr) (ev 1) (ev 2)) a_nil stCl) stNe) stNe)) a_nil stTe)))
  (b_one (s_asg (ev 3) (g_set2 (hu40 hr) (ev 1) (ev 2)))))
def g_Roof___init__:FSt:=(sSeq (sFldF ct "homes" (fVar 0) fDict0) (sSeq (sFldF ct "given" (fVar 0) fDict0) (sSeq (sFldF ct "called" (fVar 0) fDict0) (sSeq (sFldF ct "bearers" (fVar 0) fDict0T) (sSeq (sFldF ct "inside" (fVar 0) fDict0) (sSeq (sFldF ct "holders" (fVar 0) fDict0) (sSeq (sFldF ct "trusts" (fVar 0) fDict0) (sSeq (sFldF ct "deeds" (fVar 0) (fLst aNil)) (sFldF ct "ledger" (fVar 0) (fMake 196 F_Ledger___init__))))))))))
def F_Roof___init__:FF:=fun xs=>runB g_Roof___init__ (startT N_Roof___init__ xs)
theorem sc_Roof___init__:FnScope N_Roof___init__ ["self"] (defScope s_Roof___init__):=⟨rfl,rfl,rfl,by decide +kernel,rfl,by decide +kernel,by decide +kernel⟩
theorem f_Roof___init__ (T:Txt P w K mg) (B:Bas mg base):MakeD P w K mg base tb 3 "Roof" 474 248 ["self"] F_Roof___init__:=by
 refine fnI (T.d_Roof___init__) (g:=g_Roof___init__) (N:=N_Roof___init__) sc_Roof___init__ fun cdv A outer s H E hr=>?_
 exact (b_cons (s_fld T.ct (ev 0) e_dict0)
  (b_cons (s_fld T.ct (ev 0) e_dict0)
  (b_cons (s_fld T.ct (ev 0) e_dict0)
  (b_cons (s_fld T.ct (ev 0) e_dict0T)
  (b_cons (s_fld T.ct (ev 0) e_dict0)
  (b_cons (s_fld T.ct (ev 0) e_dict0)
  (b_cons (s_fld T.ct (ev 0) e_dict0)
  (b_cons (s_fld T.ct (ev 0) (e_lst a_nil))
  (b_one (s_fld T.ct (ev 0) (e_make0 (f_Ledger___init__ T B) rfl hr.m)))))))))))
def g_Roof_check_one:FSt:=(sIf (tOrF (tNotF (fB (fCall F_is_whole 1 (aCons (fVar 1) aNil)))) (fB (fOp (gNotIn gtup) (fVar 1) (fFld ct "called" (fVar 0))))) (sRaise1 75 "who" (aCons (fVar 1) aNil)) sNext)
def F_Roof_check_one:FF:=fun xs=>runB g_Roof_check_one (startT N_Roof_check_one xs)
theorem sc_Roof_check_one:FnScope N_Roof_check_one ["self","who"] (defScope s_Roof_check_one):=⟨rfl,rfl,rfl,by decide +kernel,rfl,by decide +kernel,by decide +kernel⟩
theorem f_Roof_check_one (T:Txt P w K mg) (B:Bas mg base):MethD P w K mg base tb 2 474 "check_one" 401 ["self","who"] F_Roof_check_one:=by
 refine fnM (T.d_Roof_check_one) (g:=g_Roof_check_one) (N:=N_Roof_check_one) sc_Roof_check_one fun cdv A outer s H E hr=>?_
 exact (b_one (s_if (w_pt (w_or (t_not (t_val (e_callD (f_is_whole T B) hr.m (a_cons (ev 1) a_nil stNe)))) (w_or1 (t_notIn (hu40 hr) T.gt (ev 1) (e_fld T.ct (ev 0)))))) (b_one (s_raise1 rfl hr.m T.i_NoOne rfl T.g_NoOne (a_cons (ev 1) a_nil stNe))) b_nil))
def g_Roof_check_house:FSt:=(sIf (tOrF (tNotF (fB (fCB (gIsi itab) (aCons (fVar 1) (aCons (fC (.ty "str")) aNil))))) (fB (fOp (gNotIn gtup) (fVar 1) (fFld ct "homes" (fVar 0))))) (sRaise 56 (aCons (fC (.str "there is no such house")) aNil)) sNext)
def F_Roof_check_house:FF:=fun xs=>runB g_Roof_check_house (startT N_Roof_check_house xs)
theorem sc_Roof_check_house:FnScope N_Roof_check_house ["self","house"] (defScope s_Roof_check_house):=⟨rfl,rfl,rfl,by decide +kernel,rfl,by decide +kernel,by decide +kernel⟩
theorem f_Roof_check_house (T:Txt P w K mg) (B:Bas mg base):MethD P w K mg base tb 1 474 "check_house" 415 ["self","house"] F_Roof_check_house:=by
 refine fnM (T.d_Roof_check_house) (g:=g_Roof_check_house) (N:=N_Roof_check_house) sc_Roof_check_house fun cdv A outer s H E hr=>?_
 exact (b_one (s_if (w_pt (w_or (t_not (t_val (e_isi T.isi rfl T.n_isinstance (a_cons (ev 1) (a_cons (e_bltn (v:=.ty "str") (w:=.ty "str") rfl T.n_str (by first | rfl | decide +kernel) rfl fun _ _=>rfl) a_nil stNe) stNe)))) (w_or1 (t_notIn (hu40 hr) T.gt (ev 1) (e_fld T.ct (ev 0)))))) (b_one (s_raise rfl T.x_NoHouse rfl T.g_NoHouse (a_cons e_str a_nil stCt))) b_nil))
def g_Roof_note:FSt:=(sSeq (sExpr (fBMl gApp (fFld ct "deeds" (fVar 0)) (aCons (fVar 1) aNil))) (sExpr (fMeth 196 "begin" F_Ledger_begin 1 (fFld ct "ledger" (fVar 0)) aNil)))
def F_Roof_note:FF:=fun xs=>runB g_Roof_note (startT N_Roof_note xs)
theorem sc_Roof_note:FnScope N_Roof_note ["self","row"] (defScope s_Roof_note):=⟨rfl,rfl,rfl,by decide +kernel,rfl,by decide +kernel,by decide +kernel⟩
theorem f_Roof_note (T:Txt P w K mg) (B:Bas mg base):MethD P w K mg base tb 2 474 "note" 429 ["self","row"] F_Roof_note:=by
 refine fnM (T.d_Roof_note) (g:=g_Roof_note) (N:=N_Roof_note) sc_Roof_note fun cdv A outer s H E hr=>?_
 exact (b_cons (s_expr (e_append (e_fld T.ct (ev 0)) (a_cons (ev 1) a_nil stNe)))
  (b_one (s_expr (e_meth0 (f_Ledger_begin T B) hr.m (e_fld T.ct (ev 0))))))
def g_Roof_add_range:FSt:=(sSeq (sAsg (fOp gPlus2 (fC (.int 100)) (fOp gMul2 (fC (.int 100)) (fCB gLen2 (aCons (fFld ct "given" (fVar 0)) aNil)))) (gN 2)) (sSeq (sExpr (fMeth 196 "put" F_Ledger_put 4 (fFld ct "ledger" (fVar 0)) (aCons (fFld ct "homes" (fVar 0)) (aCons (fVar 1) (aCons (fOp gPlus2 (fGet2 (fFld ct "homes" (fVar 0)) (fVar 1) (fTup aNil)) (fTup (aCons (fVar 2) aNil))) aNil))))) (sSeq (sExpr (fMeth 196 "put" F_Ledger_put 4 (fFld ct "ledger" (fVar 0)) (aCons (fFld ct "given" (fVar 0)) (aCons (fVar 2) (aCons (fC (.int 0)) aNil))))) (sRet (fVar 2)))))
def F_Roof_add_range:FF:=fun xs=>runB g_Roof_add_range (startT N_Roof_add_range xs)
theorem sc_Roof_add_range:FnScope N_Roof_add_range ["self","house"] (defScope s_Roof_add_range):=⟨rfl,rfl,rfl,by decide +kernel,rfl,by decide +kernel,by decide +kernel⟩
theorem f_Roof_add_range (T:Txt P w K mg) (B:Bas mg base):MethD P w K mg base tb 2 474 "add_range" 436 ["self","house"] F_Roof_add_range:=by
 refine fnM (T.d_Roof_add_range) (g:=g_Roof_add_range) (N:=N_Roof_add_range) sc_Roof_add_range fun cdv A outer s H E hr=>?_
 exact (b_cons (s_asg (e_plus2 (e_glob (v:=(.int 100)) (w:=(.int 100)) rfl T.g_FIRST_RANGE.choose_spec (by first | exact ⟨_,rfl⟩ | rfl) fun _ _=>rfl) (e_mul2 (e_glob (v:=(.int 100)) (w:=(.int 100)) rfl T.g_RANGE_SIZE.choose_spec (by first | exact ⟨_,rfl⟩ | rfl) fun _ _=>rfl) (e_len2 rfl T.n_len (a_cons (e_fld T.ct (ev 0)) a_nil)))) (gn 2 (hN:=sc_Roof_add_range.nd)))
  (b_cons (s_expr (e_meth (f_Ledger_put T B) hr.m (e_fld T.ct (ev 0)) (a_cons (e_fld T.ct (ev 0)) (a_cons (ev 1) (a_cons (e_plus2 (e_get2 (hu40 hr) (e_fld T.ct (ev 0)) (ev 1) (e_tup a_nil)) (e_tup (a_cons (ev 2) a_nil stNe))) a_nil stBp) stNe))))
  (b_cons (s_expr (e_meth (f_Ledger_put T B) hr.m (e_fld T.ct (ev 0)) (a_cons (e_fld T.ct (ev 0)) (a_cons (ev 2) (a_cons e_int a_nil stCt) stNe))))
  (b_one (s_ret (ev 2))))))
def g_Roof_give_number:FSt:=(sSeq (sAsg (fOp gIx2 (fOp gIx2 (fFld ct "homes" (fVar 0)) (fVar 1)) (fUn gNeg (fC (.int 1)))) (gN 2)) (sSeq (sIf (fB (fOp gEq (fOp gIx2 (fFld ct "given" (fVar 0)) (fVar 2)) (fC (.int 100)))) (sAsg (fMeth 474 "add_range" F_Roof_add_range 2 (fVar 0) (aCons (fVar 1) aNil)) (gN 2)) sNext) (sSeq (sAsg (fOp gIx2 (fFld ct "given" (fVar 0)) (fVar 2)) (gN 3)) (sSeq (sExpr (fMeth 196 "put" F_Ledger_put 4 (fFld ct "ledger" (fVar 0)) (aCons (fFld ct "given" (fVar 0)) (aCons (fVar 2) (aCons (fOp gPlus2 (fVar 3) (fC (.int 1))) aNil))))) (sRet (fOp gPlus2 (fVar 2) (fVar 3)))))))
def F_Roof_give_number:FF:=fun xs=>runB g_Roof_give_number (startT N_Roof_give_number xs)
theorem sc_Roof_give_number:FnScope N_Roof_give_number ["self","house"] (defScope s_Roof_give_number):=⟨rfl,rfl,rfl,by decide +kernel,rfl,by decide +kernel,by decide +kernel⟩
theorem f_Roof_give_number (T:Txt P w K mg) (B:Bas mg base):MethD P w K mg base tb 3 474 "give_number" 443 ["self","house"] F_Roof_give_number:=by
 refine fnM (T.d_Roof_give_number) (g:=g_Roof_give_number) (N:=N_Roof_give_number) sc_Roof_give_number fun cdv A outer s H E hr=>?_
 exact (b_cons (s_asg (e_ix2 (hu40 hr) (e_ix2 (hu40 hr) (e_fld T.ct (ev 0)) (ev 1)) (e_neg e_int)) (gn 2 (hN:=sc_Roof_give_number.nd)))
  (b_cons (s_if (t_eq (hu40 hr) (e_ix2 (hu40 hr) (e_fld T.ct (ev 0)) (ev 2)) (e_glob (v:=(.int 100)) (w:=(.int 100)) rfl T.g_RANGE_SIZE.choose_spec (by first | exact ⟨_,rfl⟩ | rfl) fun _ _=>rfl)) (b_one (s_asg (e_meth (f_Roof_add_range T B) hr.m (ev 0) (a_cons (ev 1) a_nil stNe)) (gn 2 (hN:=sc_Roof_give_number.nd)))) b_nil)
  (b_cons (s_asg (e_ix2 (hu40 hr) (e_fld T.ct (ev 0)) (ev 2)) (gn 3 (hN:=sc_Roof_give_number.nd)))
  (b_cons (s_expr (e_meth (f_Ledger_put T B) hr.m (e_fld T.ct (ev 0)) (a_cons (e_fld T.ct (ev 0)) (a_cons (ev 2) (a_cons (e_plus2 (ev 3) e_int) a_nil stBp) stNe))))
  (b_one (s_ret (e_plus2 (ev 2) (ev 3))))))))
def g_Roof_found:FSt:=(sSeq (sIf (tNotF (fB (fCall F_is_word 1 (aCons (fVar 1) aNil)))) (sRaise 44 (aCons (fC (.str "this is no word")) aNil)) sNext) (sSeq (sIf (fB (fOp (gIn2 gtup) (fVar 1) (fFld ct "homes" (fVar 0)))) (sRaise1 94 "taken" (aCons (fVar 1) aNil)) sNext) (sSeq (sExpr (fMeth 474 "note" F_Roof_note 2 (fVar 0) (aCons (fTup (aCons (fC (.str "found")) (aCons (fVar 1) aNil))) aNil))) (sSeq (sExpr (fMeth 474 "add_range" F_Roof_add_range 2 (fVar 0) (aCons (fVar 1) aNil))) (sExpr (fMeth 196 "put" F_Ledger_put 4 (fFld ct "ledger" (fVar 0)) (aCons (fFld ct "trusts" (fVar 0)) (aCons (fVar 1) (aCons fDict0 aNil)))))))))
def F_Roof_found:FF:=fun xs=>runB g_Roof_found (startT N_Roof_found xs)
theorem sc_Roof_found:FnScope N_Roof_found ["self","house"] (defScope s_Roof_found):=⟨rfl,rfl,rfl,by decide +kernel,rfl,by decide +kernel,by decide +kernel⟩
theorem f_Roof_found (T:Txt P w K mg) (B:Bas mg base):MethD P w K mg base tb 3 474 "found" 262 ["self","house"] F_Roof_found:=by
 refine fnM (T.d_Roof_found) (g:=g_Roof_found) (N:=N_Roof_found) sc_Roof_found fun cdv A outer s H E hr=>?_
 exact (b_cons (s_if (t_not (t_val (e_callD (f_is_word T B) hr.m (a_cons (ev 1) a_nil stNe)))) (b_one (s_raise rfl T.x_BadName rfl T.g_BadName (a_cons e_str a_nil stCt))) b_nil)
  (b_cons (s_if (t_in2 (hu40 hr) T.gt (ev 1) (e_fld T.ct (ev 0))) (b_one (s_raise1 rfl hr.m T.i_Taken rfl T.g_Taken (a_cons (ev 1) a_nil stNe))) b_nil)
  (b_cons (s_expr (e_meth (f_Roof_note T B) hr.m (ev 0) (a_cons (e_tup (a_cons e_str (a_cons (ev 1) a_nil stNe) stCt)) a_nil stTe)))
  (b_cons (s_expr (e_meth (f_Roof_add_range T B) hr.m (ev 0) (a_cons (ev 1) a_nil stNe)))
  (b_one (s_expr (e_meth (f_Ledger_put T B) hr.m (e_fld T.ct (ev 0)) (a_cons (e_fld T.ct (ev 0)) (a_cons (ev 1) (a_cons e_dict0 a_nil) stNe)))))))))
def g_Roof_come:FSt:=(sSeq (sIf (tNotF (fB (fCall F_is_kind 1 (aCons (fVar 1) aNil)))) (sRaise 44 (aCons (fC (.str "this is no kind")) aNil)) sNext) (sSeq (sIf (tNotF (fB (fCall F_is_word 1 (aCons (fVar 2) aNil)))) (sRaise 44 (aCons (fC (.str "this is no word")) aNil)) sNext) (sSeq (sExpr (fMeth 474 "check_house" F_Roof_check_house 2 (fVar 0) (aCons (fVar 3) aNil))) (sSeq (sAsg (fTup (aCons (fVar 1) (aCons (fVar 2) (aCons (fVar 3) aNil)))) (gN 4)) (sSeq (sIf (fB (fOp (gIn2 gtup) (fVar 4) (fFld ct "bearers" (fVar 0)))) (sRaise1 94 "taken" (aCons (fVar 4) aNil)) sNext) (sSeq (sExpr (fMeth 474 "note" F_Roof_note 2 (fVar 0) (aCons (fTup (aCons (fC (.str "come")) (aCons (fVar 1) (aCons (fVar 2) (aCons (fVar 3) aNil))))) aNil))) (sSeq (sAsg (fMeth 474 "give_number" F_Roof_give_number 2 (fVar 0) (aCons (fVar 3) aNil)) (gN 5)) (sSeq (sExpr (fMeth 196 "put" F_Ledger_put 4 (fFld ct "ledger" (fVar 0)) (aCons (fFld ct "called" (fVar 0)) (aCons (fVar 5) (aCons (fVar 4) aNil))))) (sSeq (sExpr (fMeth 196 "put" F_Ledger_put 4 (fFld ct "ledger" (fVar 0)) (aCons (fFld ct "bearers" (fVar 0)) (aCons (fVar 4) (aCons (fVar 5) aNil))))) (sSeq (sExpr (fMeth 196 "put" F_Ledger_put 4 (fFld ct "ledger" (fVar 0)) (aCons (fFld ct "holders" (fVar 0)) (aCons (fVar 5) (aCons fDict0 aNil))))) (sSeq (sIf (fB (fOp gEq (fVar 1) (fC (.str "group")))) (sExpr (fMeth 196 "put" F_Ledger_put 4 (fFld ct "ledger" (fVar 0)) (aCons (fFld ct "inside" (fVar 0)) (aCons (fVar 5) (aCons fDict0 aNil))))) sNext) (sRet (fVar 5)))))))))))))
def F_Roof_come:FF:=fun xs=>runB g_Roof_come (startT N_Roof_come xs)
theorem sc_Roof_come:FnScope N_Roof_come ["self","kind","word","house"] (defScope s_Roof_come):=⟨rfl,rfl,rfl,by decide +kernel,rfl,by decide +kernel,by decide +kernel⟩
theorem f_Roof_come (T:Txt P w K mg) (B:Bas mg base):MethD P w K mg base tb 4 474 "come" 269 ["self","kind","word","house"] F_Roof_come:=by
 refine fnM (T.d_Roof_come) (g:=g_Roof_come) (N:=N_Roof_come) sc_Roof_come fun cdv A outer s H E hr=>?_
 exact (b_cons (s_if (t_not (t_val (e_callD (f_is_kind T B) hr.m (a_cons (ev 1) a_nil stNe)))) (b_one (s_raise rfl T.x_BadName rfl T.g_BadName (a_cons e_str a_nil stCt))) b_nil)
  (b_cons (s_if (t_not (t_val (e_callD (f_is_word T B) hr.m (a_cons (ev 2) a_nil stNe)))) (b_one (s_raise rfl T.x_BadName rfl T.g_BadName (a_cons e_str a_nil stCt))) b_nil)
  (b_cons (s_expr (e_meth (f_Roof_check_house T B) hr.m (ev 0) (a_cons (ev 3) a_nil stNe)))
  (b_cons (s_asg (e_tup (a_cons (ev 1) (a_cons (ev 2) (a_cons (ev 3) a_nil stNe) stNe) stNe)) (gn 4 (hN:=sc_Roof_come.nd)))
  (b_cons (s_if (t_in2 (hu40 hr) T.gt (ev 4) (e_fld T.ct (ev 0))) (b_one (s_raise1 rfl hr.m T.i_Taken rfl T.g_Taken (a_cons (ev 4) a_nil stNe))) b_nil)
  (b_cons (s_expr (e_meth (f_Roof_note T B) hr.m (ev 0) (a_cons (e_tup (a_cons e_str (a_cons (ev 1) (a_cons (ev 2) (a_cons (ev 3) a_nil stNe) stNe) stNe) stCt)) a_nil stTe)))
  (b_cons (s_asg (e_meth (f_Roof_give_number T B) hr.m (ev 0) (a_cons (ev 3) a_nil stNe)) (gn 5 (hN:=sc_Roof_come.nd)))
  (b_cons (s_expr (e_meth (f_Ledger_put T B) hr.m (e_fld T.ct (ev 0)) (a_cons (e_fld T.ct (ev 0)) (a_cons (ev 5) (a_cons (ev 4) a_nil stNe) stNe))))
  (b_cons (s_expr (e_meth (f_Ledger_put T B) hr.m (e_fld T.ct (ev 0)) (a_cons (e_fld T.ct (ev 0)) (a_cons (ev 4) (a_cons (ev 5) a_nil stNe) stNe))))
  (b_cons (s_expr (e_meth (f_Ledger_put T B) hr.m (e_fld T.ct (ev 0)) (a_cons (e_fld T.ct (ev 0)) (a_cons (ev 5) (a_cons e_dict0 a_nil) stNe))))
  (b_cons (s_if (t_eq (hu40 hr) (ev 1) e_str) (b_one (s_expr (e_meth (f_Ledger_put T B) hr.m (e_fld T.ct (ev 0)) (a_cons (e_fld T.ct (ev 0)) (a_cons (ev 5) (a_cons e_dict0 a_nil) stNe))))) b_nil)
  (b_one (s_ret (ev 5))))))))))))))
def g_Roof_go:FSt:=(sSeq (sExpr (fMeth 474 "check_one" F_Roof_check_one 2 (fVar 0) (aCons (fVar 1) aNil))) sBad)
def F_Roof_go:FF:=fun xs=>runB g_Roof_go (startT N_Roof_go xs)
theorem sc_Roof_go:FnScope N_Roof_go ["self","who"] (defScope s_Roof_go):=⟨rfl,rfl,rfl,by decide +kernel,rfl,by decide +kernel,by decide +kernel⟩
theorem f_Roof_go (T:Txt P w K mg) (B:Bas mg base):MethD P w K mg base tb 3 474 "go" 276 ["self","who"] F_Roof_go:=by
 refine fnM (T.d_Roof_go) (g:=g_Roof_go) (N:=N_Roof_go) sc_Roof_go fun cdv A outer s H E hr=>?_
 exact (b_cons (s_expr (e_meth (f_Roof_check_one T B) hr.m (ev 0) (a_cons (ev 1) a_nil stNe)))
  b_bad)
def g_Roof_put_in:FSt:=sBad
def F_Roof_put_in:FF:=fun xs=>runB g_Roof_put_in (startT N_Roof_put_in xs)
theorem sc_Roof_put_in:FnScope N_Roof_put_in ["self","who","group"] (defScope s_Roof_put_in):=⟨rfl,rfl,rfl,by decide +kernel,rfl,by decide +kernel,by decide +kernel⟩
theorem f_Roof_put_in (T:Txt P w K mg) (B:Bas mg base):MethD P w K mg base tb 1 474 "put_in" 283 ["self","who","group"] F_Roof_put_in:=by
 refine fnM (T.d_Roof_put_in) (g:=g_Roof_put_in) (N:=N_Roof_put_in) sc_Roof_put_in fun cdv A outer s H E hr=>?_
 exact b_bad
def g_Roof_take_out:FSt:=sBad
def F_Roof_take_out:FF:=fun xs=>runB g_Roof_take_out (startT N_Roof_take_out xs)
theorem sc_Roof_take_out:FnScope N_Roof_take_out ["self","who","group"] (defScope s_Roof_take_out):=⟨rfl,rfl,rfl,by decide +kernel,rfl,by decide +kernel,by decide +kernel⟩
theorem f_Roof_take_out (T:Txt P w K mg) (B:Bas mg base):MethD P w K mg base tb 1 474 "take_out" 290 ["self","who","group"] F_Roof_take_out:=by
 refine fnM (T.d_Roof_take_out) (g:=g_Roof_take_out) (N:=N_Roof_take_out) sc_Roof_take_out fun cdv A outer s H E hr=>?_
 exact b_bad
def g_Roof_call:FSt:=(sSeq (sExpr (fMeth 474 "check_one" F_Roof_check_one 2 (fVar 0) (aCons (fVar 1) aNil))) (sSeq (sIf (tNotF (fB (fCall F_is_word 1 (aCons (fVar 2) aNil)))) (sRaise 44 (aCons (fC (.str "this is no word")) aNil)) sNext) sBad))
def F_Roof_call:FF:=fun xs=>runB g_Roof_call (startT N_Roof_call xs)
theorem sc_Roof_call:FnScope N_Roof_call ["self","who","word"] (defScope s_Roof_call):=⟨rfl,rfl,rfl,by decide +kernel,rfl,by decide +kernel,by decide +kernel⟩
theorem f_Roof_call (T:Txt P w K mg) (B:Bas mg base):MethD P w K mg base tb 3 474 "call" 297 ["self","who","word"] F_Roof_call:=by
 refine fnM (T.d_Roof_call) (g:=g_Roof_call) (N:=N_Roof_call) sc_Roof_call fun cdv A outer s H E hr=>?_
 exact (b_cons (s_expr (e_meth (f_Roof_check_one T B) hr.m (ev 0) (a_cons (ev 1) a_nil stNe)))
  (b_cons (s_if (t_not (t_val (e_callD (f_is_word T B) hr.m (a_cons (ev 2) a_nil stNe)))) (b_one (s_raise rfl T.x_BadName rfl T.g_BadName (a_cons e_str a_nil stCt))) b_nil)
  b_bad))
def g_Roof_move:FSt:=sBad
def F_Roof_move:FF:=fun xs=>runB g_Roof_move (startT N_Roof_move xs)
theorem sc_Roof_move:FnScope N_Roof_move ["self","who","house","word"] (defScope s_Roof_move):=⟨rfl,rfl,rfl,by decide +kernel,rfl,by decide +kernel,by decide +kernel⟩
theorem f_Roof_move (T:Txt P w K mg) (B:Bas mg base):MethK P w K mg base tb 1 474 "move" 305 ["self","who","house","word"] ["word"] F_Roof_move/\MethN P w K mg base tb 1 474 "move" 305 ["self","who","house","word"] F_Roof_move:=by
 refine fnMK (T.d_Roof_move) (g:=g_Roof_move) (N:=N_Roof_move) sc_Roof_move fun cdv A outer s H E hr=>?_
 exact b_bad
theorem f_Roof_moveK (T:Txt P w K mg) (B:Bas mg base):MethK P w K mg base tb 1 474 "move" 305 ["self","who","house","word"] ["word"] F_Roof_move:=(f_Roof_move T B).1
def g_Roof_merge:FSt:=sBad
def F_Roof_merge:FF:=fun xs=>runB g_Roof_merge (startT N_Roof_merge xs)
theorem sc_Roof_merge:FnScope N_Roof_merge ["self","house","other"] (defScope s_Roof_merge):=⟨rfl,rfl,rfl,by decide +kernel,rfl,by decide +kernel,by decide +kernel⟩
theorem f_Roof_merge (T:Txt P w K mg) (B:Bas mg base):MethD P w K mg base tb 1 474 "merge" 312 ["self","house","other"] F_Roof_merge:=by
 refine fnM (T.d_Roof_merge) (g:=g_Roof_merge) (N:=N_Roof_merge) sc_Roof_merge fun cdv A outer s H E hr=>?_
 exact b_bad
def g_Roof_trust:FSt:=sBad
def F_Roof_trust:FF:=fun xs=>runB g_Roof_trust (startT N_Roof_trust xs)
theorem sc_Roof_trust:FnScope N_Roof_trust ["self","house","other"] (defScope s_Roof_trust):=⟨rfl,rfl,rfl,by decide +kernel,rfl,by decide +kernel,by decide +kernel⟩
theorem f_Roof_trust (T:Txt P w K mg) (B:Bas mg base):MethD P w K mg base tb 1 474 "trust" 319 ["self","house","other"] F_Roof_trust:=by
 refine fnM (T.d_Roof_trust) (g:=g_Roof_trust) (N:=N_Roof_trust) sc_Roof_trust fun cdv A outer s H E hr=>?_
 exact b_bad
def g_Roof_mistrust:FSt:=sBad
def F_Roof_mistrust:FF:=fun xs=>runB g_Roof_mistrust (startT N_Roof_mistrust xs)
theorem sc_Roof_mistrust:FnScope N_Roof_mistrust ["self","house","other"] (defScope s_Roof_mistrust):=⟨rfl,rfl,rfl,by decide +kernel,rfl,by decide +kernel,by decide +kernel⟩
theorem f_Roof_mistrust (T:Txt P w K mg) (B:Bas mg base):MethD P w K mg base tb 1 474 "mistrust" 326 ["self","house","other"] F_Roof_mistrust:=by
 refine fnM (T.d_Roof_mistrust) (g:=g_Roof_mistrust) (N:=N_Roof_mistrust) sc_Roof_mistrust fun cdv A outer s H E hr=>?_
 exact b_bad
def g_Roof_take_back:FSt:=(sSeq (sIf (tNotF (fTr (fFld ct "deeds" (fVar 0)))) (sRaise 149 (aCons (fC (.str "there is no deed to take back")) aNil)) sNext) sBad)
def F_Roof_take_back:FF:=fun xs=>runB g_Roof_take_back (startT N_Roof_take_back xs)
theorem sc_Roof_take_back:FnScope N_Roof_take_back ["self"] (defScope s_Roof_take_back):=⟨rfl,rfl,rfl,by decide +kernel,rfl,by decide +kernel,by decide +kernel⟩
theorem f_Roof_take_back (T:Txt P w K mg) (B:Bas mg base):MethD P w K mg base tb 1 474 "take_back" 333 ["self"] F_Roof_take_back:=by
 refine fnM (T.d_Roof_take_back) (g:=g_Roof_take_back) (N:=N_Roof_take_back) sc_Roof_take_back fun cdv A outer s H E hr=>?_
 exact (b_cons (s_if (t_not (t_truth (e_fld T.ct (ev 0)))) (b_one (s_raise rfl T.x_Nothing rfl T.g_Nothing (a_cons e_str a_nil stCt))) b_nil)
  b_bad)
def g_Roof_time:FSt:=(sRet (fCB gLen2 (aCons (fFld ct "deeds" (fVar 0)) aNil)))
def F_Roof_time:FF:=fun xs=>runB g_Roof_time (startT N_Roof_time xs)
theorem sc_Roof_time:FnScope N_Roof_time ["self"] (defScope s_Roof_time):=⟨rfl,rfl,rfl,by decide +kernel,rfl,by decide +kernel,by decide +kernel⟩
theorem f_Roof_time (T:Txt P w K mg) (B:Bas mg base):MethD P w K mg base tb 1 474 "time" 340 ["self"] F_Roof_time:=by
 refine fnM (T.d_Roof_time) (g:=g_Roof_time) (N:=N_Roof_time) sc_Roof_time fun cdv A outer s H E hr=>?_
 exact (b_one (s_ret (e_len2 rfl T.n_len (a_cons (e_fld T.ct (ev 0)) a_nil))))
def g_Roof_ranges:FSt:=(sSeq (sExpr (fMeth 474 "check_house" F_Roof_check_house 2 (fVar 0) (aCons (fVar 1) aNil))) sBad)
def F_Roof_ranges:FF:=fun xs=>runB g_Roof_ranges (startT N_Roof_ranges xs)
theorem sc_Roof_ranges:FnScope N_Roof_ranges ["self","house"] (defScope s_Roof_ranges):=⟨rfl,rfl,rfl,by decide +kernel,rfl,by decide +kernel,by decide +kernel⟩
theorem f_Roof_ranges (T:Txt P w K mg) (B:Bas mg base):MethD P w K mg base tb 2 474 "ranges" 354 ["self","house"] F_Roof_ranges:=by
 refine fnM (T.d_Roof_ranges) (g:=g_Roof_ranges) (N:=N_Roof_ranges) sc_Roof_ranges fun cdv A outer s H E hr=>?_
 exact (b_cons (s_expr (e_meth (f_Roof_check_house T B) hr.m (ev 0) (a_cons (ev 1) a_nil stNe)))
  b_bad)
def g_is_rule:FSt:=(sSeq (sIf (tOrF (tNotF (fB (fCB (gIsi itab) (aCons (fVar 0) (aCons (fC (.ty "tuple")) aNil))))) (fB (fOp gNe (fCB gLen2 (aCons (fVar 0) aNil)) (fC (.int 3))))) (sRet (fC (.bl false))) sNext) (sSeq (sAsg (fVar 0) (gT [gN 1,gN 2,gN 3])) (sRet (fAnd (fCB (gIsi itab) (aCons (fVar 1) (aCons (fC (.ty "str")) aNil))) (fAnd (fOp (gIn2 gtup) (fVar 1) (fTup (aCons (fC (.str "let")) (aCons (fC (.str "bar")) aNil)))) (fAnd (fCall F_is_whole 1 (aCons (fVar 2) aNil)) (fCall F_is_word 1 (aCons (fVar 3) aNil))))))))
def F_is_rule:FF:=fun xs=>runB g_is_rule (startT N_is_rule xs)
theorem sc_is_rule:FnScope N_is_rule ["thing"] (defScope s_is_rule):=⟨rfl,rfl,rfl,by decide +kernel,rfl,by decide +kernel,by decide +kernel⟩
theorem f_is_rule (T:Txt P w K mg) (B:Bas mg base):FnD P w K mg base tb 2 "is_rule" 507 ["thing"] F_is_rule:=by
 refine fnD (T.d_is_rule) (g:=g_is_rule) (N:=N_is_rule) sc_is_rule fun cdv A outer s H E hr=>?_
 exact (b_cons (s_if (w_pt (w_or (t_not (t_val (e_isi T.isi rfl T.n_isinstance (a_cons (ev 0) (a_cons (e_bltn (v:=.ty "tuple") (w:=.ty "tuple") rfl T.n_tuple (by first | rfl | decide +kernel) rfl fun _ _=>rfl) a_nil stNe) stNe)))) (w_or1 (t_ne (hu40 hr) (e_len2 rfl T.n_len (a_cons (ev 0) a_nil stNe)) e_int)))) (b_one (s_ret e_bl)) b_nil)
  (b_cons (s_asg (ev 0) (g_tup rfl (gs_cons (gn 1 (hN:=sc_is_rule.nd)) (gs_cons (gn 2 (hN:=sc_is_rule.nd)) (gs_cons (gn 3 (hN:=sc_is_rule.nd)) gs_nil)))))
  (b_one (s_ret (e_and (e_isi T.isi rfl T.n_isinstance (a_cons (ev 1) (a_cons (e_bltn (v:=.ty "str") (w:=.ty "str") rfl T.n_str (by first | rfl | decide +kernel) rfl fun _ _=>rfl) a_nil stNe) stNe)) (e_and (e_in2 (hu40 hr) T.gt (ev 1) (e_tup (a_cons (e_glob (v:=(.str "let")) (w:=(.str "let")) rfl T.g_LET.choose_spec (by first | exact ⟨_,rfl⟩ | rfl) fun _ _=>rfl) (a_cons (e_glob (v:=(.str "bar")) (w:=(.str "bar")) rfl T.g_BAR.choose_spec (by first | exact ⟨_,rfl⟩ | rfl) fun _ _=>rfl) a_nil stNe) stNe))) (e_and (e_callD (f_is_whole T B) hr.m (a_cons (ev 2) a_nil stNe)) (e_one (e_callD (f_is_word T B) hr.m (a_cons (ev 3) a_nil stNe))))))))))
def g_check_rules:FSt:=(sIf (tOrF (tNotF (fB (fCB (gIsi itab) (aCons (fVar 0) (aCons (fC (.ty "list")) aNil))))) (tNotF (fB (fCB gAll (aCons (fCompL 1 [] (fVar 0) (gN 0) tYes (fCall F_is_rule 1 (aCons (fVar 0) aNil))) aNil))))) (sRaise 106 (aCons (fC (.str "this is no list of rules")) aNil)) sNext)
def F_check_rules:FF:=fun xs=>runB g_check_rules (startT N_check_rules xs)
theorem sc_check_rules:FnScope N_check_rules ["rules"] (defScope s_check_rules):=⟨rfl,rfl,rfl,by decide +kernel,rfl,by decide +kernel,by decide +kernel⟩
theorem f_check_rules (T:Txt P w K mg) (B:Bas mg base):FnD P w K mg base tb 3 "check_rules" 512 ["rules"] F_check_rules:=by
 refine fnD (T.d_check_rules) (g:=g_check_rules) (N:=N_check_rules) sc_check_rules fun cdv A outer s H E hr=>?_
 exact (b_one (s_if (w_pt (w_or (t_not (t_val (e_isi T.isi rfl T.n_isinstance (a_cons (ev 0) (a_cons (e_bltn (v:=.ty "list") (w:=.ty "list") rfl T.n_list (by first | rfl | decide +kernel) rfl fun _ _=>rfl) a_nil stNe) stNe)))) (w_or1 (t_not (t_val (e_all rfl T.n_all (a_cons (e_compL (own:=["each"]) (xs:=[]) (pr:=[]) rfl trivial trivial (ev 0) (fun _ _ _=>gn 0 (hN:=(by decide +kernel:(["each"]:List Str).Nodup))) (fun _ _ _=>ifs_nil) (fun _ _ _=>(e_callD (f_is_rule T B) hr.m (a_cons (ev 0) a_nil stNe)))) a_nil))))))) (b_one (s_raise rfl T.x_BadRule rfl T.g_BadRule (a_cons e_str a_nil stCt))) b_nil))
def g_needless:FSt:=(sSeq (sExpr (fCall F_check_rules 1 (aCons (fVar 1) aNil))) sBad)
def F_needless:FF:=fun xs=>runB g_needless (startT N_needless xs)
theorem sc_needless:FnScope N_needless ["roof","rules"] (defScope s_needless):=⟨rfl,rfl,rfl,by decide +kernel,rfl,by decide +kernel,by decide +kernel⟩
theorem f_needless (T:Txt P w K mg) (B:Bas mg base):FnD P w K mg base tb 4 "needless" 531 ["roof","rules"] F_needless:=by
 refine fnD (T.d_needless) (g:=g_needless) (N:=N_needless) sc_needless fun cdv A outer s H E hr=>?_
 exact (b_cons (s_expr (e_callD (f_check_rules T B) hr.m (a_cons (ev 1) a_nil stNe)))
  b_bad)
def g_fits:FSt:=(sSeq (sIf (fB (fOp gEq (fVar 1) (fC (.str "number")))) (sRet (fAnd (fCall F_is_whole 1 (aCons (fVar 0) aNil)) fBadE)) sNext) (sSeq (sIf (fB (fOp gEq (fVar 1) (fC (.str "kind")))) (sRet (fCall F_is_kind 1 (aCons (fVar 0) aNil))) sNext) (sSeq (sIf (tAndF (fB (fOp gEq (fVar 1) (fC (.str "word or none")))) (fB (fOp gIsN (fVar 0) (fC .non)))) (sRet (fC (.bl true))) sNext) (sRet (fCall F_is_word 1 (aCons (fVar 0) aNil))))))
def F_fits:FF:=fun xs=>runB g_fits (startT N_fits xs)
theorem sc_fits:FnScope N_fits ["part","form"] (defScope s_fits):=⟨rfl,rfl,rfl,by decide +kernel,rfl,by decide +kernel,by decide +kernel⟩
theorem f_fits (T:Txt P w K mg) (B:Bas mg base):FnD P w K mg base tb 2 "fits" 549 ["part","form"] F_fits:=by
 refine fnD (T.d_fits) (g:=g_fits) (N:=N_fits) sc_fits fun cdv A outer s H E hr=>?_
 exact (b_cons (s_if (t_eq (hu40 hr) (ev 1) e_str) (b_one (s_ret (e_and (e_callD (f_is_whole T B) hr.m (a_cons (ev 0) a_nil stNe)) (e_one e_bad)))) b_nil)
  (b_cons (s_if (t_eq (hu40 hr) (ev 1) e_str) (b_one (s_ret (e_callD (f_is_kind T B) hr.m (a_cons (ev 0) a_nil stNe)))) b_nil)
  (b_cons (s_if (w_pt (w_and (t_eq (hu40 hr) (ev 1) e_str) (w_and1 (t_isN (ev 0) e_non)))) (b_one (s_ret e_bl)) b_nil)
  (b_one (s_ret (e_callD (f_is_word T B) hr.m (a_cons (ev 0) a_nil stNe)))))))
def g_is_row:FSt:=(sSeq (sIf (tOrF (tNotF (fB (fCB (gIsi itab) (aCons (fVar 0) (aCons (fC (.ty "tuple")) aNil))))) (tNotF (fTr (fVar 0)))) (sRet (fC (.bl false))) sNext) (sSeq (sAsg (fVar 0) (gStar [gN 1,gN 2])) (sSeq (sIf (tOrF (tNotF (fB (fCB (gIsi itab) (aCons (fVar 1) (aCons (fC (.ty "str")) aNil))))) (tOrF (fB (fOp (gInT 532 kvF true) (fVar 1) (fC (.adr 532)))) (fB (fOp gNe (fCB (gLenT gtup) (aCons (fVar 2) aNil)) (fCB (gLenT gtup) (aCons (fOp (gIxT 532 kvF) (fC (.adr 532)) (fVar 1)) aNil)))))) (sRet (fC (.bl false))) sNext) (sRet (fCB gAll (aCons (fCompZ gtup 2 [] (fVar 2) (fOp (gIxT 532 kvF) (fC (.adr 532)) (fVar 1)) (gT [gN 0,gN 1]) tYes (fCall F_fits 2 (aCons (fVar 0) (aCons (fVar 1) aNil)))) aNil))))))
def F_is_row:FF:=fun xs=>runB g_is_row (startT N_is_row xs)
theorem sc_is_row:FnScope N_is_row ["thing"] (defScope s_is_row):=⟨rfl,rfl,rfl,by decide +kernel,rfl,by decide +kernel,by decide +kernel⟩
theorem f_is_row (T:Txt P w K mg) (B:Bas mg base):FnD P w K mg base tb 3 "is_row" 554 ["thing"] F_is_row:=by
 refine fnD (T.d_is_row) (g:=g_is_row) (N:=N_is_row) sc_is_row fun cdv A outer s H E hr=>?_
 exact (b_cons (s_if (w_pt (w_or (t_not (t_val (e_isi T.isi rfl T.n_isinstance (a_cons (ev 0) (a_cons (e_bltn (v:=.ty "tuple") (w:=.ty "tuple") rfl T.n_tuple (by first | rfl | decide +kernel) rfl fun _ _=>rfl) a_nil stNe) stNe)))) (w_or1 (t_not (t_truth (ev 0)))))) (b_one (s_ret e_bl)) b_nil)
  (b_cons (s_asg (ev 0) (g_star rfl (gs_cons (gn 1 (hN:=sc_is_row.nd)) (gs_cons (gn 2 (hN:=sc_is_row.nd)) gs_nil))))
  (b_cons (s_if (w_pt (w_or (t_not (t_val (e_isi T.isi rfl T.n_isinstance (a_cons (ev 1) (a_cons (e_bltn (v:=.ty "str") (w:=.ty "str") rfl T.n_str (by first | rfl | decide +kernel) rfl fun _ _=>rfl) a_nil stNe) stNe)))) (w_or (t_notInT T.forms (ev 1) (e_glob (v:=(.adr 532)) (w:=(.ref 532)) rfl T.g_FORMS (by first | exact ⟨_,rfl⟩ | rfl) fun _ _=>rfl)) (w_or1 (t_ne (hu40 hr) (e_lenT T.gt rfl T.n_len (a_cons (ev 2) a_nil stNe)) (e_lenT T.gt rfl T.n_len (a_cons (e_ixT T.forms (e_glob (v:=(.adr 532)) (w:=(.ref 532)) rfl T.g_FORMS (by first | exact ⟨_,rfl⟩ | rfl) fun _ _=>rfl) (ev 1)) a_nil stSt))))))) (b_one (s_ret e_bl)) b_nil)
  (b_one (s_ret (e_all rfl T.n_all (a_cons (e_compZ T.gt (own:=["part","form"]) (xs:=[]) (pr:=[]) rfl rfl T.n_zip rfl trivial trivial (ev 2) (e_ixT T.forms (e_glob (v:=(.adr 532)) (w:=(.ref 532)) rfl T.g_FORMS (by first | exact ⟨_,rfl⟩ | rfl) fun _ _=>rfl) (ev 1)) (fun _ _ _=>g_tup rfl (gs_cons (gn 0 (hN:=(by decide +kernel:(["part","form"]:List Str).Nodup))) (gs_cons (gn 1 (hN:=(by decide +kernel:(["part","form"]:List Str).Nodup))) gs_nil))) (fun _ _ _=>ifs_nil) (fun _ _ _=>(e_callD (f_fits T B) hr.m (a_cons (ev 0) (a_cons (ev 1) a_nil stNe) stNe)))) a_nil)))))))
def g_is_number_text:FSt:=(sSeq (sIf (tOrF (fB (fOp gEq (fVar 0) (fC (.str "")))) (tNotF (fB (fCB gAll (aCons (fCompS 1 [] (fVar 0) (gN 0) tYes (fOp (gIn2 gtup) (fVar 0) (fC (.str "0123456789")))) aNil))))) (sRet (fC (.bl false))) sNext) (sRet (fOr (fOp gEq (fVar 0) (fC (.str "0"))) (fNot (fBMs gSw (fVar 0) (aCons (fC (.str "0")) aNil))))))
def F_is_number_text:FF:=fun xs=>runB g_is_number_text (startT N_is_number_text xs)
theorem sc_is_number_text:FnScope N_is_number_text ["text"] (defScope s_is_number_text):=⟨rfl,rfl,rfl,by decide +kernel,rfl,by decide +kernel,by decide +kernel⟩
theorem f_is_number_text (T:Txt P w K mg) (B:Bas mg base):FnD P w K mg base tb 1 "is_number_text" 559 ["text"] F_is_number_text:=by
 refine fnD (T.d_is_number_text) (g:=g_is_number_text) (N:=N_is_number_text) sc_is_number_text fun cdv A outer s H E hr=>?_
 exact (b_cons (s_if (w_pt (w_or (t_eq (hu40 hr) (ev 0) e_str) (w_or1 (t_not (t_val (e_all rfl T.n_all (a_cons (e_compS rfl (own:=["sign"]) (xs:=[]) (pr:=[]) rfl trivial trivial (ev 0) (fun _ _ _=>gn 0 (hN:=(by decide +kernel:(["sign"]:List Str).Nodup))) (fun _ _ _=>ifs_nil) (fun _ _ _=>(e_in2 (hu40 hr) T.gt (ev 0) (e_glob (v:=(.str "0123456789")) (w:=(.str "0123456789")) rfl T.g_FIGURES.choose_spec (by first | exact ⟨_,rfl⟩ | rfl) fun _ _=>rfl)))) a_nil))))))) (b_one (s_ret e_bl)) b_nil)
  (b_one (s_ret (e_or (e_eq (hu40 hr) (ev 0) e_str) (e_one (e_not (e_bms PySem.F.slot_str_startswith PySem.F.type_str_startswith mt_sw (ev 0) (a_cons e_str a_nil stCt))))))))
def g_read_number:FSt:=sBad
def F_read_number:FF:=fun xs=>runB g_read_number (startT N_read_number xs)
theorem sc_read_number:FnScope N_read_number ["text"] (defScope s_read_number):=⟨rfl,rfl,rfl,by decide +kernel,rfl,by decide +kernel,by decide +kernel⟩
theorem f_read_number (T:Txt P w K mg) (B:Bas mg base):FnD P w K mg base tb 1 "read_number" 566 ["text"] F_read_number:=by
 refine fnD (T.d_read_number) (g:=g_read_number) (N:=N_read_number) sc_read_number fun cdv A outer s H E hr=>?_
 exact b_bad
def g_read_part:FSt:=(sSeq (sIf (tAndF (fB (fOp gEq (fVar 1) (fC (.str "number")))) (fB (fCall F_is_number_text 1 (aCons (fVar 0) aNil)))) (sRet (fCall F_read_number 1 (aCons (fVar 0) aNil))) sNext) (sSeq (sIf (tAndF (fB (fOp gEq (fVar 1) (fC (.str "word or none")))) (fB (fOp gEq (fVar 0) (fC (.str "-"))))) (sRet (fC .non)) sNext) (sRet (fVar 0))))
def F_read_part:FF:=fun xs=>runB g_read_part (startT N_read_part xs)
theorem sc_read_part:FnScope N_read_part ["text","form"] (defScope s_read_part):=⟨rfl,rfl,rfl,by decide +kernel,rfl,by decide +kernel,by decide +kernel⟩
theorem f_read_part (T:Txt P w K mg) (B:Bas mg base):FnD P w K mg base tb 2 "read_part" 573 ["text","form"] F_read_part:=by
 refine fnD (T.d_read_part) (g:=g_read_part) (N:=N_read_part) sc_read_part fun cdv A outer s H E hr=>?_
 exact (b_cons (s_if (w_pt (w_and (t_eq (hu40 hr) (ev 1) e_str) (w_and1 (t_val (e_callD (f_is_number_text T B) hr.m (a_cons (ev 0) a_nil stNe)))))) (b_one (s_ret (e_callD (f_read_number T B) hr.m (a_cons (ev 0) a_nil stNe)))) b_nil)
  (b_cons (s_if (w_pt (w_and (t_eq (hu40 hr) (ev 1) e_str) (w_and1 (t_eq (hu40 hr) (ev 0) (e_glob (v:=(.str "-")) (w:=(.str "-")) rfl T.g_NONE.choose_spec (by first | exact ⟨_,rfl⟩ | rfl) fun _ _=>rfl))))) (b_one (s_ret e_non)) b_nil)
  (b_one (s_ret (ev 0)))))
def g_read_row:FSt:=(sSeq (sAsg (fBMs gSplit (fVar 0) (aCons (fC (.str " ")) aNil)) (gStar [gN 1,gN 2])) (sSeq (sAsg (fGetT 532 kvF (fC (.adr 532)) (fVar 1) (fTup aNil)) (gN 3)) (sSeq (sIf (fB (fOp gNe (fCB (gLenT gtup) (aCons (fVar 2) aNil)) (fCB (gLenT gtup) (aCons (fVar 3) aNil)))) (sRet (fC .non)) sNext) (sSeq (sAsg (fOp gPlus2 (fTup (aCons (fVar 1) aNil)) (fCB gTup (aCons (fCompZ gtup 2 [] (fVar 2) (fVar 3) (gT [gN 0,gN 1]) tYes (fCall F_read_part 2 (aCons (fVar 0) (aCons (fVar 1) aNil)))) aNil))) (gN 4)) (sRet (fIf (fB (fCall F_is_row 1 (aCons (fVar 4) aNil))) (fVar 4) (fC .non)))))))
def F_read_row:FF:=fun xs=>runB g_read_row (startT N_read_row xs)
theorem sc_read_row:FnScope N_read_row ["line"] (defScope s_read_row):=⟨rfl,rfl,rfl,by decide +kernel,rfl,by decide +kernel,by decide +kernel⟩
theorem f_read_row (T:Txt P w K mg) (B:Bas mg base):FnD P w K mg base tb 4 "read_row" 578 ["line"] F_read_row:=by
 refine fnD (T.d_read_row) (g:=g_read_row) (N:=N_read_row) sc_read_row fun cdv A outer s H E hr=>?_
 exact (b_cons (s_asg (e_bms PySem.F.slot_str_split PySem.F.type_str_split mt_split (ev 0) (a_cons e_str a_nil stCt)) (g_star rfl (gs_cons (gn 1 (hN:=sc_read_row.nd)) (gs_cons (gn 2 (hN:=sc_read_row.nd)) gs_nil))))
  (b_cons (s_asg (e_getT T.forms (e_glob (v:=(.adr 532)) (w:=(.ref 532)) rfl T.g_FORMS (by first | exact ⟨_,rfl⟩ | rfl) fun _ _=>rfl) (ev 1) (e_tup a_nil)) (gn 3 (hN:=sc_read_row.nd)))
  (b_cons (s_if (t_ne (hu40 hr) (e_lenT T.gt rfl T.n_len (a_cons (ev 2) a_nil stNe)) (e_lenT T.gt rfl T.n_len (a_cons (ev 3) a_nil stNe))) (b_one (s_ret e_non)) b_nil)
  (b_cons (s_asg (e_plus2 (e_tup (a_cons (ev 1) a_nil stNe)) (e_tupC rfl T.n_tuple (a_cons (e_compZ T.gt (own:=["text","form"]) (xs:=[]) (pr:=[]) rfl rfl T.n_zip rfl trivial trivial (ev 2) (ev 3) (fun _ _ _=>g_tup rfl (gs_cons (gn 0 (hN:=(by decide +kernel:(["text","form"]:List Str).Nodup))) (gs_cons (gn 1 (hN:=(by decide +kernel:(["text","form"]:List Str).Nodup))) gs_nil))) (fun _ _ _=>ifs_nil) (fun _ _ _=>(e_callD (f_read_part T B) hr.m (a_cons (ev 0) (a_cons (ev 1) a_nil stNe) stNe)))) a_nil))) (gn 4 (hN:=sc_read_row.nd)))
  (b_one (s_ret (e_ifExp (t_val (e_callD (f_is_row T B) hr.m (a_cons (ev 4) a_nil stNe))) (ev 4) e_non)))))))
def g_read_journal:FSt:=(sSeq (sIf (tNotF (fB (fCB (gIsi itab) (aCons (fVar 0) (aCons (fC (.ty "str")) aNil))))) (sRaise1 137 "row" (aCons (fC .non) aNil)) sNext) (sSeq (sAsg (fIf (fTr (fVar 0)) (fBMs gSplit (fVar 0) (aCons (fC (.str "\n")) aNil)) (fLst aNil)) (gN 1)) (sSeq (sAsg (fLst aNil) (gN 2)) (sSeq (sForEX (fVar 1) (gT [gN 3, gN 4]) (sClean (sSeq (sAsg (fCall F_read_row 1 (aCons (fVar 4) aNil)) (gN 5)) (sSeq (sIf (fB (fOp gIsN (fVar 5) (fC .non))) (sRaise1 137 "row" (aCons (fVar 3) aNil)) sNext) (sExpr (fBMl gApp (fVar 2) (aCons (fVar 5) aNil))))))) (sRet (fVar 2))))))
def F_read_journal:FF:=fun xs=>runB g_read_journal (startT N_read_journal xs)
theorem sc_read_journal:FnScope N_read_journal ["text"] (defScope s_read_journal):=⟨rfl,rfl,rfl,by decide +kernel,rfl,by decide +kernel,by decide +kernel⟩
theorem f_read_journal (T:Txt P w K mg) (B:Bas mg base):FnD P w K mg base tb 5 "read_journal" 585 ["text"] F_read_journal:=by
 refine fnD (T.d_read_journal) (g:=g_read_journal) (N:=N_read_journal) sc_read_journal fun cdv A outer s H E hr=>?_
 exact (b_cons (s_if (t_not (t_val (e_isi T.isi rfl T.n_isinstance (a_cons (ev 0) (a_cons (e_bltn (v:=.ty "str") (w:=.ty "str") rfl T.n_str (by first | rfl | decide +kernel) rfl fun _ _=>rfl) a_nil stNe) stNe)))) (b_one (s_raise1 rfl hr.m T.i_BadJournal rfl T.g_BadJournal (a_cons e_non a_nil stCt))) b_nil)
  (b_cons (s_asg (e_ifExp (t_truth (ev 0)) (e_bms PySem.F.slot_str_split PySem.F.type_str_split mt_split (ev 0) (a_cons e_str a_nil stCt)) (e_lst a_nil)) (gn 1 (hN:=sc_read_journal.nd)))
  (b_cons (s_asg (e_lst a_nil) (gn 2 (hN:=sc_read_journal.nd)))
  (b_cons (s_forEX PySem.PassesOwn.leaving rfl rfl T.n_enumerate (ev 1) (g_tup rfl (gs_cons (gn 3 (hN:=sc_read_journal.nd)) (gs_cons (gn 4 (hN:=sc_read_journal.nd)) gs_nil))) (b_clean (b_cons (s_asg (e_callD (f_read_row T B) hr.m (a_cons (ev 4) a_nil stNe)) (gn 5 (hN:=sc_read_journal.nd)))
  (b_cons (s_if (t_isN (ev 5) e_non) (b_one (s_raise1 rfl hr.m T.i_BadJournal rfl T.g_BadJournal (a_cons (ev 3) a_nil stNe))) b_nil)
  (b_one (s_expr (e_append (ev 2) (a_cons (ev 5) a_nil stNe))))))))
  (b_one (s_ret (ev 2)))))))
def g_check_time:FSt:=(sIf (tOrF (tNotF (fB (fCall F_is_whole 1 (aCons (fVar 1) aNil)))) (tOrF (fB (fOp (gI fun i j=>decide (i < j)) (fVar 1) (fC (.int 0)))) (fB (fOp (gI fun i j=>decide (j < i)) (fVar 1) (fMeth 474 "time" F_Roof_time 1 (fVar 0) aNil))))) (sRaise 118 (aCons (fC (.str "the roof had no such time")) aNil)) sNext)
def F_check_time:FF:=fun xs=>runB g_check_time (startT N_check_time xs)
theorem sc_check_time:FnScope N_check_time ["roof","time"] (defScope s_check_time):=⟨rfl,rfl,rfl,by decide +kernel,rfl,by decide +kernel,by decide +kernel⟩
theorem f_check_time (T:Txt P w K mg) (B:Bas mg base):FnD P w K mg base tb 2 "check_time" 606 ["roof","time"] F_check_time:=by
 refine fnD (T.d_check_time) (g:=g_check_time) (N:=N_check_time) sc_check_time fun cdv A outer s H E hr=>?_
 exact (b_one (s_if (w_pt (w_or (t_not (t_val (e_callD (f_is_whole T B) hr.m (a_cons (ev 1) a_nil stNe)))) (w_or (t_lt (ev 1) e_int) (w_or1 (t_gt (ev 1) (e_meth0 (f_Roof_time T B) hr.m (ev 0))))))) (b_one (s_raise rfl T.x_BadTime rfl T.g_BadTime (a_cons e_str a_nil stCt))) b_nil))
def g_as_of:FSt:=(sSeq (sExpr (fCall F_check_time 2 (aCons (fVar 0) (aCons (fVar 1) aNil)))) sBad)
def F_as_of:FF:=fun xs=>runB g_as_of (startT N_as_of xs)
theorem sc_as_of:FnScope N_as_of ["roof","time"] (defScope s_as_of):=⟨rfl,rfl,rfl,by decide +kernel,rfl,by decide +kernel,by decide +kernel⟩
theorem f_as_of (T:Txt P w K mg) (B:Bas mg base):FnD P w K mg base tb 3 "as_of" 613 ["roof","time"] F_as_of:=by
 refine fnD (T.d_as_of) (g:=g_as_of) (N:=N_as_of) sc_as_of fun cdv A outer s H E hr=>?_
 exact (b_cons (s_expr (e_callD (f_check_time T B) hr.m (a_cons (ev 0) (a_cons (ev 1) a_nil stNe) stNe)))
  b_bad)
def g__law_do:FSt:=(sSeq (sAsg (fSl2 (fOp gPlus2 (fVar 1) (fTup (aCons (fC .non) aNil))) oNone (oSome (fC (.int 3)))) (gT [gN 2,gN 3,gN 4])) (sSeq (sIf (fB (fOp (gIn2 gtup) (fVar 2) (fTup (aCons (fC (.str "found")) (aCons (fC (.str "go")) aNil))))) (sRet (fClean (fTold [2,3,0] (fIf (fB (fOp gEq (fVar 0) (fC (.str "found")))) (fMeth 474 "found" F_Roof_found 2 (fVar 2) (aCons (fVar 1) aNil)) (fMeth 474 "go" F_Roof_go 2 (fVar 2) (aCons (fVar 1) aNil))) fh_told))) sNext) (sSeq (sIf (fB (fOp gEq (fVar 2) (fC (.str "come")))) (sRet (fClean (fTold [3,4,0,1] (fMeth 474 "come" F_Roof_come 4 (fVar 2) (aCons (fVar 0) (aCons (fVar 1) (aCons (fOp gIx2 (fVar 3) (fC (.int 3))) aNil)))) fh_told))) sNext) (sSeq (sIf (fB (fOp (gIn2 gtup) (fVar 2) (fTup (aCons (fC (.str "put_in")) (aCons (fC (.str "take_out")) aNil))))) (sRet (fClean (fTold [2,3,4,0] (fIf (fB (fOp gEq (fVar 0) (fC (.str "put_in")))) (fMeth 474 "put_in" F_Roof_put_in 3 (fVar 3) (aCons (fVar 1) (aCons (fVar 2) aNil))) (fMeth 474 "take_out" F_Roof_take_out 3 (fVar 3) (aCons (fVar 1) (aCons (fVar 2) aNil)))) fh_told))) sNext) (sSeq (sIf (fB (fOp gEq (fVar 2) (fC (.str "move")))) (sRet (fClean (fTold [3,4,0,1] (fMethK 474 "move" F_Roof_move 4 1 (fVar 2) (aCons (fVar 0) (aCons (fVar 1) aNil)) (aCons (fOp gIx2 (fVar 3) (fC (.int 3))) aNil)) fh_told))) sNext) (sSeq (sIf (fB (fOp (gIn2 gtup) (fVar 2) (fTup (aCons (fC (.str "call")) (aCons (fC (.str "merge")) aNil))))) (sRet (fClean (fTold [2,3,4,0] (fIf (fB (fOp gEq (fVar 0) (fC (.str "call")))) (fMeth 474 "call" F_Roof_call 3 (fVar 3) (aCons (fVar 1) (aCons (fVar 2) aNil))) (fMeth 474 "merge" F_Roof_merge 3 (fVar 3) (aCons (fVar 1) (aCons (fVar 2) aNil)))) fh_told))) sNext) (sRet (fClean (fTold [2,3,4,0] (fIf (fB (fOp gEq (fVar 0) (fC (.str "trust")))) (fMeth 474 "trust" F_Roof_trust 3 (fVar 3) (aCons (fVar 1) (aCons (fVar 2) aNil))) (fMeth 474 "mistrust" F_Roof_mistrust 3 (fVar 3) (aCons (fVar 1) (aCons (fVar 2) aNil)))) fh_told)))))))))
def F__law_do:FF:=fun xs=>runB g__law_do (startT N__law_do xs)
theorem sc__law_do:FnScope N__law_do ["_law_roof","_law_row"] (defScope s__law_do):=⟨rfl,rfl,rfl,by decide +kernel,rfl,by decide +kernel,by decide +kernel⟩
theorem f__law_do (T:Txt P w K mg) (B:Bas mg base):FnD P w K mg base tb 7 "_law_do" 658 ["_law_roof","_law_row"] F__law_do:=by
 refine fnC (T.d__law_do) (g:=g__law_do) (N:=N__law_do) sc__law_do fun A outer s H E hr=>?_
 have hL:=lamAt__law_do (K:=K) (P:=P) (w:=w) (A:=A) (outer:=outer) (s:=s) (H:=H) (E:=E) B
 exact (b_cons (s_asg (e_slice2 (e_plus2 (ev 1) (e_tup (a_cons e_non a_nil stCt))) o_none (o_some e_int)) (g_tup rfl (gs_cons (gn 2 (hN:=sc__law_do.nd)) (gs_cons (gn 3 (hN:=sc__law_do.nd)) (gs_cons (gn 4 (hN:=sc__law_do.nd)) gs_nil)))))
  (b_cons (s_if (t_in2 (hu40 hr) T.gt (ev 2) (e_tup (a_cons e_str (a_cons e_str a_nil stCt) stCt))) (b_one (s_ret (e_clean (e_toldQ (P:=P) (w:=w) (base:=base) (k:=3) (xs:=["_law_term","_law_who","_law_roof"]) (pr:=[2,3,0]) T hr.m hL rfl ⟨rfl,⟨rfl,⟨rfl,trivial⟩⟩⟩ ⟨rfl,.inl rfl,⟨rfl,rfl⟩,⟨rfl,.inl rfl,⟨rfl,rfl⟩,⟨rfl,.inl rfl,⟨rfl,rfl⟩,trivial⟩⟩⟩ (fun _ _ _ _ _ _ _ _ z=>(e_ifExp (t_eq (hu40 z) (ev 0) e_str) (e_meth (f_Roof_found T B) z.m (ev 2) (a_cons (ev 1) a_nil stNe)) (e_meth (f_Roof_go T B) z.m (ev 2) (a_cons (ev 1) a_nil stNe)))))))) b_nil)
  (b_cons (s_if (t_eq (hu40 hr) (ev 2) e_str) (b_one (s_ret (e_clean (e_toldQ (P:=P) (w:=w) (base:=base) (k:=4) (xs:=["_law_who","_law_more","_law_roof","_law_row"]) (pr:=[3,4,0,1]) T hr.m hL rfl ⟨rfl,⟨rfl,⟨rfl,⟨rfl,trivial⟩⟩⟩⟩ ⟨rfl,.inl rfl,⟨rfl,rfl⟩,⟨rfl,.inl rfl,⟨rfl,rfl⟩,⟨rfl,.inl rfl,⟨rfl,rfl⟩,⟨rfl,.inl rfl,⟨rfl,rfl⟩,trivial⟩⟩⟩⟩ (fun _ _ _ _ _ _ _ _ z=>(e_meth (f_Roof_come T B) z.m (ev 2) (a_cons (ev 0) (a_cons (ev 1) (a_cons (e_ix2 (hu40 z) (ev 3) e_int) a_nil stSt) stNe) stNe))))))) b_nil)
  (b_cons (s_if (t_in2 (hu40 hr) T.gt (ev 2) (e_tup (a_cons e_str (a_cons e_str a_nil stCt) stCt))) (b_one (s_ret (e_clean (e_toldQ (P:=P) (w:=w) (base:=base) (k:=1) (xs:=["_law_term","_law_who","_law_more","_law_roof"]) (pr:=[2,3,4,0]) T hr.m hL rfl ⟨rfl,⟨rfl,⟨rfl,⟨rfl,trivial⟩⟩⟩⟩ ⟨rfl,.inl rfl,⟨rfl,rfl⟩,⟨rfl,.inl rfl,⟨rfl,rfl⟩,⟨rfl,.inl rfl,⟨rfl,rfl⟩,⟨rfl,.inl rfl,⟨rfl,rfl⟩,trivial⟩⟩⟩⟩ (fun _ _ _ _ _ _ _ _ z=>(e_ifExp (t_eq (hu40 z) (ev 0) e_str) (e_meth (f_Roof_put_in T B) z.m (ev 3) (a_cons (ev 1) (a_cons (ev 2) a_nil stNe) stNe)) (e_meth (f_Roof_take_out T B) z.m (ev 3) (a_cons (ev 1) (a_cons (ev 2) a_nil stNe) stNe)))))))) b_nil)
  (b_cons (s_if (t_eq (hu40 hr) (ev 2) e_str) (b_one (s_ret (e_clean (e_toldQ (P:=P) (w:=w) (base:=base) (k:=1) (xs:=["_law_who","_law_more","_law_roof","_law_row"]) (pr:=[3,4,0,1]) T hr.m hL rfl ⟨rfl,⟨rfl,⟨rfl,⟨rfl,trivial⟩⟩⟩⟩ ⟨rfl,.inl rfl,⟨rfl,rfl⟩,⟨rfl,.inl rfl,⟨rfl,rfl⟩,⟨rfl,.inl rfl,⟨rfl,rfl⟩,⟨rfl,.inl rfl,⟨rfl,rfl⟩,trivial⟩⟩⟩⟩ (fun _ _ _ _ _ _ _ _ z=>(e_methK (f_Roof_moveK T B) z.m (ev 2) (a_cons (ev 0) (a_cons (ev 1) a_nil stNe) stNe) (k_cons (e_ix2 (hu40 z) (ev 3) e_int) k_nil))))))) b_nil)
  (b_cons (s_if (t_in2 (hu40 hr) T.gt (ev 2) (e_tup (a_cons e_str (a_cons e_str a_nil stCt) stCt))) (b_one (s_ret (e_clean (e_toldQ (P:=P) (w:=w) (base:=base) (k:=3) (xs:=["_law_term","_law_who","_law_more","_law_roof"]) (pr:=[2,3,4,0]) T hr.m hL rfl ⟨rfl,⟨rfl,⟨rfl,⟨rfl,trivial⟩⟩⟩⟩ ⟨rfl,.inl rfl,⟨rfl,rfl⟩,⟨rfl,.inl rfl,⟨rfl,rfl⟩,⟨rfl,.inl rfl,⟨rfl,rfl⟩,⟨rfl,.inl rfl,⟨rfl,rfl⟩,trivial⟩⟩⟩⟩ (fun _ _ _ _ _ _ _ _ z=>(e_ifExp (t_eq (hu40 z) (ev 0) e_str) (e_meth (f_Roof_call T B) z.m (ev 3) (a_cons (ev 1) (a_cons (ev 2) a_nil stNe) stNe)) (e_meth (f_Roof_merge T B) z.m (ev 3) (a_cons (ev 1) (a_cons (ev 2) a_nil stNe) stNe)))))))) b_nil)
  (b_one (s_ret (e_clean (e_toldQ (P:=P) (w:=w) (base:=base) (k:=1) (xs:=["_law_term","_law_who","_law_more","_law_roof"]) (pr:=[2,3,4,0]) T hr.m hL rfl ⟨rfl,⟨rfl,⟨rfl,⟨rfl,trivial⟩⟩⟩⟩ ⟨rfl,.inl rfl,⟨rfl,rfl⟩,⟨rfl,.inl rfl,⟨rfl,rfl⟩,⟨rfl,.inl rfl,⟨rfl,rfl⟩,⟨rfl,.inl rfl,⟨rfl,rfl⟩,trivial⟩⟩⟩⟩ (fun _ _ _ _ _ _ _ _ z=>(e_ifExp (t_eq (hu40 z) (ev 0) e_str) (e_meth (f_Roof_trust T B) z.m (ev 3) (a_cons (ev 1) (a_cons (ev 2) a_nil stNe) stNe)) (e_meth (f_Roof_mistrust T B) z.m (ev 3) (a_cons (ev 1) (a_cons (ev 2) a_nil stNe) stNe))))))))))))))
def g__law_alone:FSt:=(sSeq (sAsg (fLst (aCons (fCB (gIsi itab) (aCons (fVar 0) (aCons (fC (.adr 75)) aNil))) (aCons (fCB (gIsi itab) (aCons (fVar 0) (aCons (fC (.adr 94)) aNil))) (aCons (fCB (gIsi itab) (aCons (fVar 0) (aCons (fC (.adr 137)) aNil))) (aCons (fCB (gIsi itab) (aCons (fVar 0) (aCons (fC (.adr 44)) aNil))) aNil))))) (gN 2)) (sSeq (sAsg (fOp gPlus2 (fVar 2) (fLst (aCons (fCB (gIsi itab) (aCons (fVar 0) (aCons (fC (.adr 56)) aNil))) (aCons (fCB (gIsi itab) (aCons (fVar 0) (aCons (fC (.adr 106)) aNil))) (aCons (fCB (gIsi itab) (aCons (fVar 0) (aCons (fC (.adr 118)) aNil))) aNil))))) (gN 2)) (sSeq (sAsg (fOp gPlus2 (fVar 2) (fLst (aCons (fCB (gIsi itab) (aCons (fVar 0) (aCons (fC (.adr 149)) aNil))) aNil))) (gN 2)) (sRet (fAnd (fCB (gIsi itab) (aCons (fVar 0) (aCons (fC (.ty "ValueError")) aNil))) (fOp gEq (fVar 2) (fCompR 1 [1] (aCons (fC (.int 8)) aNil) (gN 0) tYes (fOp gEq (fVar 0) (fVar 1)))))))))
def F__law_alone:FF:=fun xs=>runB g__law_alone (startT N__law_alone xs)
theorem sc__law_alone:FnScope N__law_alone ["_law_e","_law_own"] (defScope s__law_alone):=⟨rfl,rfl,rfl,by decide +kernel,rfl,by decide +kernel,by decide +kernel⟩
theorem f__law_alone (T:Txt P w K mg) (B:Bas mg base):FnD P w K mg base tb 1 "_law_alone" 670 ["_law_e","_law_own"] F__law_alone:=by
 refine fnD (T.d__law_alone) (g:=g__law_alone) (N:=N__law_alone) sc__law_alone fun cdv A outer s H E hr=>?_
 exact (b_cons (s_asg (e_lst (a_cons (e_isi T.isi rfl T.n_isinstance (a_cons (ev 0) (a_cons (e_glob (v:=(.adr 75)) (w:=(.ref 75)) rfl T.g_NoOne (by first | exact ⟨_,rfl⟩ | rfl) fun _ _=>rfl) a_nil stNe) stNe)) (a_cons (e_isi T.isi rfl T.n_isinstance (a_cons (ev 0) (a_cons (e_glob (v:=(.adr 94)) (w:=(.ref 94)) rfl T.g_Taken (by first | exact ⟨_,rfl⟩ | rfl) fun _ _=>rfl) a_nil stNe) stNe)) (a_cons (e_isi T.isi rfl T.n_isinstance (a_cons (ev 0) (a_cons (e_glob (v:=(.adr 137)) (w:=(.ref 137)) rfl T.g_BadJournal (by first | exact ⟨_,rfl⟩ | rfl) fun _ _=>rfl) a_nil stNe) stNe)) (a_cons (e_isi T.isi rfl T.n_isinstance (a_cons (ev 0) (a_cons (e_glob (v:=(.adr 44)) (w:=(.ref 44)) rfl T.g_BadName (by first | exact ⟨_,rfl⟩ | rfl) fun _ _=>rfl) a_nil stNe) stNe)) a_nil stCl) stCl) stCl) stCl)) (gn 2 (hN:=sc__law_alone.nd)))
  (b_cons (s_asg (e_plus2 (ev 2) (e_lst (a_cons (e_isi T.isi rfl T.n_isinstance (a_cons (ev 0) (a_cons (e_glob (v:=(.adr 56)) (w:=(.ref 56)) rfl T.g_NoHouse (by first | exact ⟨_,rfl⟩ | rfl) fun _ _=>rfl) a_nil stNe) stNe)) (a_cons (e_isi T.isi rfl T.n_isinstance (a_cons (ev 0) (a_cons (e_glob (v:=(.adr 106)) (w:=(.ref 106)) rfl T.g_BadRule (by first | exact ⟨_,rfl⟩ | rfl) fun _ _=>rfl) a_nil stNe) stNe)) (a_cons (e_isi T.isi rfl T.n_isinstance (a_cons (ev 0) (a_cons (e_glob (v:=(.adr 118)) (w:=(.ref 118)) rfl T.g_BadTime (by first | exact ⟨_,rfl⟩ | rfl) fun _ _=>rfl) a_nil stNe) stNe)) a_nil stCl) stCl) stCl))) (gn 2 (hN:=sc__law_alone.nd)))
  (b_cons (s_asg (e_plus2 (ev 2) (e_lst (a_cons (e_isi T.isi rfl T.n_isinstance (a_cons (ev 0) (a_cons (e_glob (v:=(.adr 149)) (w:=(.ref 149)) rfl T.g_Nothing (by first | exact ⟨_,rfl⟩ | rfl) fun _ _=>rfl) a_nil stNe) stNe)) a_nil stCl))) (gn 2 (hN:=sc__law_alone.nd)))
  (b_one (s_ret (e_and (e_isi T.isi rfl T.n_isinstance (a_cons (ev 0) (a_cons (e_bltn (v:=.ty "ValueError") (w:=.ty "ValueError") rfl T.n_ValueError (by first | rfl | decide +kernel) rfl fun _ _=>rfl) a_nil stNe) stNe)) (e_one (e_eq (hu40 hr) (ev 2) (e_compR rfl rfl T.n_range (own:=["_law_at"]) (xs:=["_law_own"]) (pr:=[1]) rfl ⟨rfl,trivial⟩ ⟨rfl,(by first | exact .inl rfl | exact .inr rfl),⟨rfl,rfl⟩,trivial⟩ (a_cons e_int a_nil stCt) (fun _ _ _=>gn 0 (hN:=(by decide +kernel:(["_law_at","_law_own"]:List Str).Nodup))) (fun _ _ _=>ifs_nil) (fun _ _ _=>(e_eq (hu40 hr) (ev 0) (ev 1))))))))))))
theorem sc_law:FnScope N_law ["_law_script"] (defScope s_law):=⟨rfl,rfl,rfl,by decide +kernel,rfl,by decide +kernel,by decide +kernel⟩
def lawFor:Stmt:=(defBody s_law).getD 0 (.Pass ⟨0,0,0,0⟩)
def forOf:Stmt->List Stmt
 | .For _ _ b ..=>b
 | _=>[]
def lawSt (i:Nat):Stmt:=(forOf lawFor).getD i (.Pass ⟨0,0,0,0⟩)
def g_law_0:FSt:=(sAsg (fOp gPlus2 (fC (.int 1)) (fCall F__law_roll 2 (aCons (fVar 1) (aCons (fC (.int 9)) aNil)))) (gN 2))
def g_law_1:FSt:=(sAsg (fMake 474 F_Roof___init__) (gN 3))
def g_law_2:FSt:=(sClean (sForL (fLst (aCons (fTup (aCons (fC (.str "found")) (aCons (fC (.str "oak")) aNil))) (aCons (fTup (aCons (fC (.str "come")) (aCons (fC (.str "one")) (aCons (fC (.str "ann")) (aCons (fC (.str "oak")) aNil))))) aNil))) (gN 4) (sClean (sExpr (fCall F__law_do 2 (aCons (fVar 3) (aCons (fVar 4) aNil)))))))
def g_law_3:FSt:=(sAsg (fLst (aCons (fClean (fMet [3,2] (fMeth 474 "go" F_Roof_go 2 (fVar 0) (aCons (fOp gPlus2 (fC (.int 100)) (fVar 1)) aNil)) fh_met)) aNil)) (gN 5))
def g_law_4:FSt:=(sExpr (fBMl gApp (fVar 5) (aCons (fClean (fMet [3] (fMeth 474 "come" F_Roof_come 4 (fVar 0) (aCons (fC (.str "one")) (aCons (fC (.str "ann")) (aCons (fC (.str "oak")) aNil)))) fh_met)) aNil)))
def g_law_5:FSt:=(sExpr (fBMl gApp (fVar 5) (aCons (fClean (fMet [2] (fCall F_read_journal 1 (aCons (fOp gPlus2 (fC (.str "found oak\ngo ")) (fOp gMul3 (fC (.str "x")) (fVar 0))) aNil)) fh_met)) aNil)))
def g_law_6:FSt:=(sExpr (fBMl gApp (fVar 5) (aCons (fClean (fMet [3,2] (fMeth 474 "call" F_Roof_call 3 (fVar 0) (aCons (fC (.int 100)) (aCons (fOp gMul3 (fC (.str "a")) (fOp gPlus2 (fC (.int 8)) (fVar 1))) aNil))) fh_met)) aNil)))
def g_law_7:FSt:=(sExpr (fBMl gApp (fVar 5) (aCons (fClean (fMet [3,2] (fMeth 474 "ranges" F_Roof_ranges 2 (fVar 0) (aCons (fOp gPlus2 (fC (.str "x")) (fCB gStrC (aCons (fVar 1) aNil))) aNil)) fh_met)) aNil)))
def g_law_8:FSt:=(sExpr (fBMl gApp (fVar 5) (aCons (fClean (fMet [3,2] (fCall F_needless 2 (aCons (fVar 0) (aCons (fLst (aCons (fTup (aCons (fC (.str "let")) (aCons (fC (.int 100)) (aCons (fOp gMul3 (fC (.str "a")) (fOp gPlus2 (fC (.int 8)) (fVar 1))) aNil)))) aNil)) aNil))) fh_met)) aNil)))
def g_law_9:FSt:=(sExpr (fBMl gApp (fVar 5) (aCons (fClean (fMet [3,2] (fCall F_as_of 2 (aCons (fVar 0) (aCons (fOp gPlus2 (fC (.int 2)) (fVar 1)) aNil))) fh_met)) aNil)))
def g_law_10:FSt:=(sExpr (fBMl gApp (fVar 5) (aCons (fClean (fMet [] (fMeth 474 "take_back" F_Roof_take_back 1 (fMake 474 F_Roof___init__) aNil) fh_met)) aNil)))
def g_law_11:FSt:=(sClean (sIf (tNotF (fB (fCB gAll (aCons (fCompE 2 [] (fVar 5) (gT [gN 0,gN 1]) tYes (fCall F__law_alone 2 (aCons (fVar 1) (aCons (fVar 0) aNil)))) aNil)))) (sRet (fC (.bl false))) sNext))
def g_law_12:FSt:=(sClean (sIf (tOrF (fB (fOp gNe (fXFld xt "who" (fOp gIx2 (fVar 5) (fC (.int 0)))) (fOp gPlus2 (fC (.int 100)) (fVar 2)))) (tOrF (fB (fOp gNe (fXFld xt "taken" (fOp gIx2 (fVar 5) (fC (.int 1)))) (fTup (aCons (fC (.str "one")) (aCons (fC (.str "ann")) (aCons (fC (.str "oak")) aNil)))))) (fB (fOp gNe (fXFld xt "row" (fOp gIx2 (fVar 5) (fC (.int 2)))) (fC (.int 1)))))) (sRet (fC (.bl false))) sNext))
theorem l_law_0 (T:Txt P w K mg) (B:Bas mg base) {A:Around} {outer:List Env} {s:Shared} {H:Hp} {E:XK} (hr:Room 7 (A.deeper (envOfC "law" (defScope s_law) s.heap.objs.size 675 (.ref 674)))) (hL:LamAt ((cxOf (CXF P w base) P w K mg base N_law "law" (defScope s_law) 675 (.ref 674) A outer s H E).nox) tb 674 672 "law.<locals>.<lambda>"):QS tb ((cxOf (CXF P w base) P w K mg base N_law "law" (defScope s_law) 675 (.ref 674) A outer s H E).nox) (lawSt 0) g_law_0 :=
 (s_asg (e_plus2 e_int (e_callD (f__law_roll T B) hr.m (a_cons (ev 1) (a_cons e_int a_nil stCt) stNe))) (gn 2 (hN:=sc_law.nd)))
theorem l_law_1 (T:Txt P w K mg) (B:Bas mg base) {A:Around} {outer:List Env} {s:Shared} {H:Hp} {E:XK} (hr:Room 7 (A.deeper (envOfC "law" (defScope s_law) s.heap.objs.size 675 (.ref 674)))) (hL:LamAt ((cxOf (CXF P w base) P w K mg base N_law "law" (defScope s_law) 675 (.ref 674) A outer s H E).nox) tb 674 672 "law.<locals>.<lambda>"):QS tb ((cxOf (CXF P w base) P w K mg base N_law "law" (defScope s_law) 675 (.ref 674) A outer s H E).nox) (lawSt 1) g_law_1 :=
 (s_asg (e_make0 (f_Roof___init__ T B) rfl hr.m) (gn 3 (hN:=sc_law.nd)))
theorem l_law_2 (T:Txt P w K mg) (B:Bas mg base) {A:Around} {outer:List Env} {s:Shared} {H:Hp} {E:XK} (hr:Room 7 (A.deeper (envOfC "law" (defScope s_law) s.heap.objs.size 675 (.ref 674)))) (hL:LamAt ((cxOf (CXF P w base) P w K mg base N_law "law" (defScope s_law) 675 (.ref 674) A outer s H E).nox) tb 674 672 "law.<locals>.<lambda>"):QS tb ((cxOf (CXF P w base) P w K mg base N_law "law" (defScope s_law) 675 (.ref 674) A outer s H E).nox) (lawSt 2) g_law_2 :=
 (s_clean (s_forL rfl (e_lst (a_cons (e_tup (a_cons e_str (a_cons e_str a_nil stCt) stCt)) (a_cons (e_tup (a_cons e_str (a_cons e_str (a_cons e_str (a_cons e_str a_nil stCt) stCt) stCt) stCt)) a_nil stTe) stTe)) (gn 4 (hN:=sc_law.nd)) (b_clean (b_one (s_expr (e_callD (f__law_do T B) hr.m (a_cons (ev 3) (a_cons (ev 4) a_nil stNe) stNe)))))))
theorem l_law_3 (T:Txt P w K mg) (B:Bas mg base) {A:Around} {outer:List Env} {s:Shared} {H:Hp} {E:XK} (hr:Room 7 (A.deeper (envOfC "law" (defScope s_law) s.heap.objs.size 675 (.ref 674)))) (hL:LamAt ((cxOf (CXF P w base) P w K mg base N_law "law" (defScope s_law) 675 (.ref 674) A outer s H E).nox) tb 674 672 "law.<locals>.<lambda>"):QS tb ((cxOf (CXF P w base) P w K mg base N_law "law" (defScope s_law) 675 (.ref 674) A outer s H E).nox) (lawSt 3) g_law_3 :=
 (s_asg (e_lst (a_cons (e_clean (e_metQ (P:=P) (w:=w) (base:=base) (k:=3) (xs:=["_law_roof","_law_more"]) (pr:=[3,2]) T hr.m hL rfl ⟨rfl,⟨rfl,trivial⟩⟩ ⟨rfl,.inl rfl,⟨rfl,rfl⟩,⟨rfl,.inl rfl,⟨rfl,rfl⟩,trivial⟩⟩ (fun _ _ _ _ _ _ _ _ z=>(e_meth (f_Roof_go T B) z.m (ev 0) (a_cons (e_plus2 e_int (ev 1)) a_nil stBp))))) a_nil stCl)) (gn 5 (hN:=sc_law.nd)))
theorem l_law_4 (T:Txt P w K mg) (B:Bas mg base) {A:Around} {outer:List Env} {s:Shared} {H:Hp} {E:XK} (hr:Room 7 (A.deeper (envOfC "law" (defScope s_law) s.heap.objs.size 675 (.ref 674)))) (hL:LamAt ((cxOf (CXF P w base) P w K mg base N_law "law" (defScope s_law) 675 (.ref 674) A outer s H E).nox) tb 674 672 "law.<locals>.<lambda>"):QS tb ((cxOf (CXF P w base) P w K mg base N_law "law" (defScope s_law) 675 (.ref 674) A outer s H E).nox) (lawSt 4) g_law_4 :=
 (s_expr (e_append (ev 5) (a_cons (e_clean (e_metQ (P:=P) (w:=w) (base:=base) (k:=4) (xs:=["_law_roof"]) (pr:=[3]) T hr.m hL rfl ⟨rfl,trivial⟩ ⟨rfl,.inl rfl,⟨rfl,rfl⟩,trivial⟩ (fun _ _ _ _ _ _ _ _ z=>(e_meth (f_Roof_come T B) z.m (ev 0) (a_cons e_str (a_cons e_str (a_cons e_str a_nil stCt) stCt) stCt))))) a_nil stCl)))
theorem l_law_5 (T:Txt P w K mg) (B:Bas mg base) {A:Around} {outer:List Env} {s:Shared} {H:Hp} {E:XK} (hr:Room 7 (A.deeper (envOfC "law" (defScope s_law) s.heap.objs.size 675 (.ref 674)))) (hL:LamAt ((cxOf (CXF P w base) P w K mg base N_law "law" (defScope s_law) 675 (.ref 674) A outer s H E).nox) tb 674 672 "law.<locals>.<lambda>"):QS tb ((cxOf (CXF P w base) P w K mg base N_law "law" (defScope s_law) 675 (.ref 674) A outer s H E).nox) (lawSt 5) g_law_5 :=
 (s_expr (e_append (ev 5) (a_cons (e_clean (e_metQ (P:=P) (w:=w) (base:=base) (k:=5) (xs:=["_law_more"]) (pr:=[2]) T hr.m hL rfl ⟨rfl,trivial⟩ ⟨rfl,.inl rfl,⟨rfl,rfl⟩,trivial⟩ (fun _ _ _ _ _ _ _ _ z=>(e_callD (f_read_journal T B) z.m (a_cons (e_plus2 e_str (e_mulT e_str (ev 0))) a_nil stBp))))) a_nil stCl)))
theorem l_law_6 (T:Txt P w K mg) (B:Bas mg base) {A:Around} {outer:List Env} {s:Shared} {H:Hp} {E:XK} (hr:Room 7 (A.deeper (envOfC "law" (defScope s_law) s.heap.objs.size 675 (.ref 674)))) (hL:LamAt ((cxOf (CXF P w base) P w K mg base N_law "law" (defScope s_law) 675 (.ref 674) A outer s H E).nox) tb 674 672 "law.<locals>.<lambda>"):QS tb ((cxOf (CXF P w base) P w K mg base N_law "law" (defScope s_law) 675 (.ref 674) A outer s H E).nox) (lawSt 6) g_law_6 :=
 (s_expr (e_append (ev 5) (a_cons (e_clean (e_metQ (P:=P) (w:=w) (base:=base) (k:=3) (xs:=["_law_roof","_law_more"]) (pr:=[3,2]) T hr.m hL rfl ⟨rfl,⟨rfl,trivial⟩⟩ ⟨rfl,.inl rfl,⟨rfl,rfl⟩,⟨rfl,.inl rfl,⟨rfl,rfl⟩,trivial⟩⟩ (fun _ _ _ _ _ _ _ _ z=>(e_meth (f_Roof_call T B) z.m (ev 0) (a_cons e_int (a_cons (e_mulT e_str (e_plus2 e_int (ev 1))) a_nil stBp) stCt))))) a_nil stCl)))
theorem l_law_7 (T:Txt P w K mg) (B:Bas mg base) {A:Around} {outer:List Env} {s:Shared} {H:Hp} {E:XK} (hr:Room 7 (A.deeper (envOfC "law" (defScope s_law) s.heap.objs.size 675 (.ref 674)))) (hL:LamAt ((cxOf (CXF P w base) P w K mg base N_law "law" (defScope s_law) 675 (.ref 674) A outer s H E).nox) tb 674 672 "law.<locals>.<lambda>"):QS tb ((cxOf (CXF P w base) P w K mg base N_law "law" (defScope s_law) 675 (.ref 674) A outer s H E).nox) (lawSt 7) g_law_7 :=
 (s_expr (e_append (ev 5) (a_cons (e_clean (e_metQ (P:=P) (w:=w) (base:=base) (k:=2) (xs:=["_law_roof","_law_more"]) (pr:=[3,2]) T hr.m hL rfl ⟨rfl,⟨rfl,trivial⟩⟩ ⟨rfl,.inl rfl,⟨rfl,rfl⟩,⟨rfl,.inl rfl,⟨rfl,rfl⟩,trivial⟩⟩ (fun _ _ _ _ _ _ _ _ z=>(e_meth (f_Roof_ranges T B) z.m (ev 0) (a_cons (e_plus2 e_str (e_strC rfl T.n_str (a_cons (ev 1) a_nil stNe))) a_nil stBp))))) a_nil stCl)))
theorem l_law_8 (T:Txt P w K mg) (B:Bas mg base) {A:Around} {outer:List Env} {s:Shared} {H:Hp} {E:XK} (hr:Room 7 (A.deeper (envOfC "law" (defScope s_law) s.heap.objs.size 675 (.ref 674)))) (hL:LamAt ((cxOf (CXF P w base) P w K mg base N_law "law" (defScope s_law) 675 (.ref 674) A outer s H E).nox) tb 674 672 "law.<locals>.<lambda>"):QS tb ((cxOf (CXF P w base) P w K mg base N_law "law" (defScope s_law) 675 (.ref 674) A outer s H E).nox) (lawSt 8) g_law_8 :=
 (s_expr (e_append (ev 5) (a_cons (e_clean (e_metQ (P:=P) (w:=w) (base:=base) (k:=4) (xs:=["_law_roof","_law_more"]) (pr:=[3,2]) T hr.m hL rfl ⟨rfl,⟨rfl,trivial⟩⟩ ⟨rfl,.inl rfl,⟨rfl,rfl⟩,⟨rfl,.inl rfl,⟨rfl,rfl⟩,trivial⟩⟩ (fun _ _ _ _ _ _ _ _ z=>(e_callD (f_needless T B) z.m (a_cons (ev 0) (a_cons (e_lst (a_cons (e_tup (a_cons e_str (a_cons e_int (a_cons (e_mulT e_str (e_plus2 e_int (ev 1))) a_nil stBp) stCt) stCt)) a_nil stTe)) a_nil stLt) stNe))))) a_nil stCl)))
theorem l_law_9 (T:Txt P w K mg) (B:Bas mg base) {A:Around} {outer:List Env} {s:Shared} {H:Hp} {E:XK} (hr:Room 7 (A.deeper (envOfC "law" (defScope s_law) s.heap.objs.size 675 (.ref 674)))) (hL:LamAt ((cxOf (CXF P w base) P w K mg base N_law "law" (defScope s_law) 675 (.ref 674) A outer s H E).nox) tb 674 672 "law.<locals>.<lambda>"):QS tb ((cxOf (CXF P w base) P w K mg base N_law "law" (defScope s_law) 675 (.ref 674) A outer s H E).nox) (lawSt 9) g_law_9 :=
 (s_expr (e_append (ev 5) (a_cons (e_clean (e_metQ (P:=P) (w:=w) (base:=base) (k:=3) (xs:=["_law_roof","_law_more"]) (pr:=[3,2]) T hr.m hL rfl ⟨rfl,⟨rfl,trivial⟩⟩ ⟨rfl,.inl rfl,⟨rfl,rfl⟩,⟨rfl,.inl rfl,⟨rfl,rfl⟩,trivial⟩⟩ (fun _ _ _ _ _ _ _ _ z=>(e_callD (f_as_of T B) z.m (a_cons (ev 0) (a_cons (e_plus2 e_int (ev 1)) a_nil stBp) stNe))))) a_nil stCl)))
theorem l_law_10 (T:Txt P w K mg) (B:Bas mg base) {A:Around} {outer:List Env} {s:Shared} {H:Hp} {E:XK} (hr:Room 7 (A.deeper (envOfC "law" (defScope s_law) s.heap.objs.size 675 (.ref 674)))) (hL:LamAt ((cxOf (CXF P w base) P w K mg base N_law "law" (defScope s_law) 675 (.ref 674) A outer s H E).nox) tb 674 672 "law.<locals>.<lambda>"):QS tb ((cxOf (CXF P w base) P w K mg base N_law "law" (defScope s_law) 675 (.ref 674) A outer s H E).nox) (lawSt 10) g_law_10 :=
 (s_expr (e_append (ev 5) (a_cons (e_clean (e_metQ (P:=P) (w:=w) (base:=base) (k:=4) (xs:=[]) (pr:=[]) T hr.m hL rfl trivial trivial (fun _ _ _ _ _ _ _ _ z=>(e_meth0 (f_Roof_take_back T B) z.m (e_make0 (f_Roof___init__ T B) rfl z.m))))) a_nil stCl)))
theorem l_law_11 (T:Txt P w K mg) (B:Bas mg base) {A:Around} {outer:List Env} {s:Shared} {H:Hp} {E:XK} (hr:Room 7 (A.deeper (envOfC "law" (defScope s_law) s.heap.objs.size 675 (.ref 674)))) (hL:LamAt ((cxOf (CXF P w base) P w K mg base N_law "law" (defScope s_law) 675 (.ref 674) A outer s H E).nox) tb 674 672 "law.<locals>.<lambda>"):QS tb ((cxOf (CXF P w base) P w K mg base N_law "law" (defScope s_law) 675 (.ref 674) A outer s H E).nox) (lawSt 11) g_law_11 :=
 (s_clean (s_if (t_not (t_val (e_all rfl T.n_all (a_cons (e_compE (own:=["_law_at","_law_e"]) (xs:=[]) (pr:=[]) rfl rfl T.n_enumerate rfl trivial trivial (ev 5) (fun _ _ _=>g_tup rfl (gs_cons (gn 0 (hN:=(by decide +kernel:(["_law_at","_law_e"]:List Str).Nodup))) (gs_cons (gn 1 (hN:=(by decide +kernel:(["_law_at","_law_e"]:List Str).Nodup))) gs_nil))) (fun _ _ _=>ifs_nil) (fun _ _ _=>(e_callD (f__law_alone T B) hr.m (a_cons (ev 1) (a_cons (ev 0) a_nil stNe) stNe)))) a_nil)))) (b_one (s_ret e_bl)) b_nil))
theorem l_law_12 (T:Txt P w K mg) (B:Bas mg base) {A:Around} {outer:List Env} {s:Shared} {H:Hp} {E:XK} (hr:Room 7 (A.deeper (envOfC "law" (defScope s_law) s.heap.objs.size 675 (.ref 674)))) (hL:LamAt ((cxOf (CXF P w base) P w K mg base N_law "law" (defScope s_law) 675 (.ref 674) A outer s H E).nox) tb 674 672 "law.<locals>.<lambda>"):QS tb ((cxOf (CXF P w base) P w K mg base N_law "law" (defScope s_law) 675 (.ref 674) A outer s H E).nox) (lawSt 12) g_law_12 :=
 (s_clean (s_if (w_pt (w_or (t_ne (hu40 hr) (e_xfld T.xt (e_ix2 (hu40 hr) (ev 5) e_int)) (e_plus2 e_int (ev 2))) (w_or (t_ne (hu40 hr) (e_xfld T.xt (e_ix2 (hu40 hr) (ev 5) e_int)) (e_tup (a_cons e_str (a_cons e_str (a_cons e_str a_nil stCt) stCt) stCt))) (w_or1 (t_ne (hu40 hr) (e_xfld T.xt (e_ix2 (hu40 hr) (ev 5) e_int)) e_int))))) (b_one (s_ret e_bl)) b_nil))
def g_turn:FSt:=(sSeq g_law_0 (sSeq g_law_1 (sSeq g_law_2 (sSeq g_law_3 (sSeq g_law_4 (sSeq g_law_5 (sSeq g_law_6 (sSeq g_law_7 (sSeq g_law_8 (sSeq g_law_9 (sSeq g_law_10 (sSeq g_law_11 g_law_12))))))))))))
def g_law:FSt:=(sSeq (sForL (fCall F__law_rounds 2 (aCons (fVar 0) (aCons (fC (.int 4)) aNil))) (gN 1) (sForg 1 g_turn)) (sRet (fC (.bl true))))
theorem b_turn (T:Txt P w K mg) (B:Bas mg base) {A:Around} {outer:List Env} {s:Shared} {H:Hp} {E:XK} (hr:Room 7 (A.deeper (envOfC "law" (defScope s_law) s.heap.objs.size 675 (.ref 674)))) (hL:LamAt ((cxOf (CXF P w base) P w K mg base N_law "law" (defScope s_law) 675 (.ref 674) A outer s H E).nox) tb 674 672 "law.<locals>.<lambda>"):QB tb ((cxOf (CXF P w base) P w K mg base N_law "law" (defScope s_law) 675 (.ref 674) A outer s H E).nox) (forOf lawFor) g_turn :=
 (b_cons (l_law_0 T B hr hL) (b_cons (l_law_1 T B hr hL) (b_cons (l_law_2 T B hr hL) (b_cons (l_law_3 T B hr hL) (b_cons (l_law_4 T B hr hL) (b_cons (l_law_5 T B hr hL) (b_cons (l_law_6 T B hr hL) (b_cons (l_law_7 T B hr hL) (b_cons (l_law_8 T B hr hL) (b_cons (l_law_9 T B hr hL) (b_cons (l_law_10 T B hr hL) (b_cons (l_law_11 T B hr hL) (b_one (l_law_12 T B hr hL))))))))))))))
theorem b_law (T:Txt P w K mg) (B:Bas mg base) {A:Around} {outer:List Env} {s:Shared} {H:Hp} {E:XK} (hr:Room 7 (A.deeper (envOfC "law" (defScope s_law) s.heap.objs.size 675 (.ref 674)))) (hL:LamAt ((cxOf (CXF P w base) P w K mg base N_law "law" (defScope s_law) 675 (.ref 674) A outer s H E).nox) tb 674 672 "law.<locals>.<lambda>"):QB tb (cxOf (CXF P w base) P w K mg base N_law "law" (defScope s_law) 675 (.ref 674) A outer s H E) (defBody s_law) g_law :=
 b_cons (s_forL rfl (e_callD (f__law_rounds T B) hr.m (a_cons (ev 0) (a_cons e_int a_nil stCt) stNe)) (gn 1 (hN:=sc_law.nd)) (b_forg (b_turn T B hr hL))) (b_one (s_ret e_bl))
def F_law:FF:=fun xs=>runB g_law (startT N_law xs)
theorem f_law (T:Txt P w K mg) (D:DefC K mg "law" s_law 675 674 ["_law_script"]):∃ fd,(∀ (s:Shared) (u:Value),BindsTo s fd ⟨[u],[]⟩ [("_law_script",u)])/\∀ base:Heap,Bas mg base->FnF P w K mg base tb 8 675 fd ["_law_script"] F_law:=by
 obtain ⟨oc,od,kV,doc,pm,an,ct,osl,lk,hcd,b,m⟩:=D
 refine ⟨_,fun s u=>.of_eq rfl,fun base B=>fn_F lk hcd sc_law (fun A outer s H E hr=>QB_is ▸ b_law T B hr (lamAt_law B).nox) (fun _ _ _=>rfl)⟩
end
end K61
namespace K61
open PySem PySem.Spec PyProof.Rows L2 FX FS
section
variable {K:PySem.W.Frag} {mg:Str->Option Value} {h:Heap}
theorem tab_mk (h1:itab.map (fun r=>PySem.W.kitOne K r.1 r.2.1)=itab.map (fun r=>some r.2.2)) (h2:∀ C ∈ [44,56,106,118,149,75,94,137],XCls K C):TabK K itab:=fun r hr =>
 ⟨List.map_inj_left.mp h1 r hr,fun C e=>by
  have:(match r.1 with | .ref C=>[44,56,106,118,149,75,94,137].contains C | _=>true)=true:=List.all_eq_true.mp (show itab.all (fun r=>match r.1 with | .ref C=>[44,56,106,118,149,75,94,137].contains C | _=>true)=true from rfl) r hr
  rw [e] at this
  exact h2 C (List.contains_iff_mem.mp this)⟩
def stChk (K:PySem.W.Frag):Bool:=stab.all fun r=>match excBm K r.1,excBm K r.2.1 with
 | some b1,some b2=>b2.contains (.type "BaseException") && ((Value.ref r.1 :: b1).contains (.ref r.2.1) == r.2.2)
 | _,_=>false
theorem st_mk (h:stChk K=true):STabK K stab:=fun r hr=>by
 have:=List.all_eq_true.mp h r hr
 cases e1:excBm K r.1 with
 | none=>rw [e1] at this;cases this
 | some b1 =>
  cases e2:excBm K r.2.1 with
  | none=>rw [e1,e2] at this;cases this
  | some b2 =>
   rw [e1,e2] at this
   simp only [Bool.and_eq_true,beq_iff_eq] at this
   exact ⟨b1,b2,rfl,rfl,this.1,this.2⟩
theorem ct_mk (h1:ct.map (fun r=>PySem.W.findIn K (.ref r.1) r.2)=ct.map (fun _=>some none)) (h2:∀ C ∈ [196,474],Cls K C):CTabK K ct:=fun r hr =>
 ⟨h2 r.1 (by
  have:[196,474].contains r.1=true:=List.all_eq_true.mp (show ct.all (fun r=>[196,474].contains r.1)=true from rfl) r hr
  exact List.contains_iff_mem.mp this),List.map_inj_left.mp h1 r hr⟩
theorem xt_mk (h1:xt.map (fun r=>PySem.W.findIn K (.ref r.1) r.2)=xt.map (fun _=>some none)) (h3:xt.map (fun r=>PySem.W.hasDictIn K r.1)=xt.map (fun _=>true)) (h2:∀ C ∈ [44,56,106,118,149,75,94,137],XCls K C):XTabK K xt:=fun r hr =>
 ⟨h2 r.1 (by
  have:[44,56,106,118,149,75,94,137].contains r.1=true:=List.all_eq_true.mp (show xt.all (fun r=>[44,56,106,118,149,75,94,137].contains r.1)=true from rfl) r hr
  exact List.contains_iff_mem.mp this),List.map_inj_left.mp h3 r hr,List.map_inj_left.mp h1 r hr⟩
theorem kw_len {us ws:List Value} {n m:Nat} (h1:(us++ws).length=n + m) (h2:ws.length=m):us.length=n:=by rw [List.length_append] at h1;omega
def tabs:List Addr:=[653,672]
theorem tb_tabs:∀ c Q q,(c,Q,q) ∈ tb->Q ∈ tabs:=fun c Q q hh=>by
 have:tabs.contains Q=true:=List.all_eq_true.mp (show tb.all (fun r=>tabs.contains r.2.1)=true from rfl) _ hh
 exact List.contains_iff_mem.mp this
def LF (K:PySem.W.Frag) (f:Addr) (nm qu:Str) (st:Stmt):Prop:=∃ (oc:Value) (od:Option Addr) (kV dc pm:Value) (an:Option Addr) (cd ct:Value) (sl:Array (Option Value)),K.lookup f=some ⟨oc,od,.func (PySem.W.fnOf nm qu (defArgs st) (defBody st) (defScope st) .none kV dc pm an cd ct),sl⟩/\PySem.W.codeIn K cd qu=true/\PySem.W.keepIn K (.ref f)=true
def fnB (K:PySem.W.Frag) (f:Addr) (cd:Value):Option FuncData:=match K.lookup f with
 | some ⟨_,_,.func fd,_⟩=>some { fd with kwdefaults:=.none,doc:=.none,pyModule:=.none,annotations:=none,code:=cd,closureTuple:=.none }
 | _=>none
def fnC (K:PySem.W.Frag) (f:Addr) (qu:Str):Bool:=match K.lookup f with
 | some ⟨_,_,.func fd,_⟩=>PySem.W.codeIn K fd.code qu && PySem.W.keepIn K (.ref f)
 | _=>false
def fnD (K:PySem.W.Frag) (f:Addr):Option Value:=match K.lookup f with
 | some ⟨_,_,.func fd,_⟩=>some fd.code
 | _=>none
theorem lf {f:Addr} {nm qu:Str} {st:Stmt} (h1:fnB K f .none=some (PySem.W.fnOf nm qu (defArgs st) (defBody st) (defScope st) .none .none .none .none none .none .none)) (h2:fnC K f qu=true):LF K f nm qu st:=by
 unfold fnB at h1
 unfold fnC at h2
 cases e:K.lookup f with
 | none=>rw [e] at h1;cases h1
 | some o =>
  rw [e] at h1 h2
  obtain ⟨oc,od,d,sl⟩:=o
  cases d with
  | func fd =>
   dsimp only at h1 h2
   rw [Bool.and_eq_true] at h2
   obtain ⟨n,q,p,b,sc,g,cl,d,k,dc,pm,an,c,ct,bl⟩:=fd
   injection h1 with h1
   unfold PySem.W.fnOf at h1
   injection h1
   subst_vars
   exact ⟨oc,od,k,dc,pm,an,c,ct,sl,e,h2.1,h2.2⟩
  | _=>cases h1
def LC (K:PySem.W.Frag) (f a:Addr) (nm:Str) (st:Stmt):Prop:=∃ (oc:Value) (od:Option Addr) (kV dc pm:Value) (an:Option Addr) (ct:Value) (sl:Array (Option Value)),K.lookup f=some ⟨oc,od,.func (PySem.W.fnOf nm nm (defArgs st) (defBody st) (defScope st) .none kV dc pm an (.ref a) ct),sl⟩/\PySem.W.codeIn K (.ref a) nm=true/\PySem.W.keepIn K (.ref f)=true
theorem lc {f a:Addr} {nm:Str} {st:Stmt} (h1:fnB K f .none=some (PySem.W.fnOf nm nm (defArgs st) (defBody st) (defScope st) .none .none .none .none none .none .none)) (h2:fnC K f nm=true) (h3:fnD K f=some (.ref a)):LC K f a nm st:=by
 obtain ⟨oc,od,kV,dc,pm,an,cd,ct,sl,l,c,k⟩:=lf h1 h2
 unfold fnD at h3
 rw [l] at h3
 cases h3
 exact ⟨oc,od,kV,dc,pm,an,ct,sl,l,c,k⟩
def fnT (K:PySem.W.Frag) (f:Addr):Bool:=match K.lookup f with
 | some ⟨.type n,_,_,_⟩=>n == "function"
 | _=>false
theorem fnT_is {f:Addr} {oc:Value} {od:Option Addr} {d:Data} {sl:Array (Option Value)} (h:fnT K f=true) (l:K.lookup f=some ⟨oc,od,d,sl⟩):K.lookup f=some ⟨.type "function",od,d,sl⟩:=by
 unfold fnT at h
 rw [l] at h
 cases oc with
 | type n =>
  simp only [beq_iff_eq] at h
  rw [l,h]
 | _=>cases h
abbrev BD (nm qu:Str) (st:Stmt) (ps:List Str):Prop:=∀ (kV dc pm:Value) (an:Option Addr) (cd ct:Value) (us:List Value),us.length=ps.length->bindArgs (PySem.W.fnOf nm qu (defArgs st) (defBody st) (defScope st) .none kV dc pm an cd ct) ⟨us,[]⟩=pure (ps.zip us)
theorem ddD {f:Addr} {nm:Str} {st:Stmt} {ps:List Str} (X:K.In h) (G:h.Ns mainGlobals mg) (a:PySem.W.nsIn K mainGlobals nm=some (some (.ref f))) (l:LF K f nm nm st) (b:BD nm nm st ps):DefD K mg nm st f ps :=
 let ⟨_,_,_,_,_,_,_,_,_,l,c,k⟩:=l;⟨_,fun_mk l c k,(fun_mk l c k).binds b,PySem.W.mg_of X G a⟩
theorem ddC {f cd:Addr} {nm:Str} {st:Stmt} {ps:List Str} (X:K.In h) (G:h.Ns mainGlobals mg) (a:PySem.W.nsIn K mainGlobals nm=some (some (.ref f))) (l:LC K f cd nm st) (b:BD nm nm st ps):DefCK K mg nm st f cd ps :=
 let ⟨_,_,_,_,_,_,_,_,l,c,k⟩:=l;⟨⟨_,_,_,_,_,_,_,_,l,c,(fun_mk l c k).binds b,PySem.W.mg_of X G a⟩,k⟩
def MF (K:PySem.W.Frag) (C:Addr) (m:Str) (f:Addr):Prop:=PySem.W.findIn K (.ref C) m=some (some (.ref f))/\PySem.W.isFn K (.ref f)=true
theorem ddM {f C:Addr} {m q:Str} {st:Stmt} {ps:List Str} (l:LF K f m q st) (cl:Cls K C) (m1:MF K C m f) (b:BD m q st ps):DefM K C m q st f ps :=
 let ⟨_,_,_,_,_,_,_,_,_,l,c,k⟩:=l;⟨_,fun_mk l c k,(fun_mk l c k).binds b,cl,m1.1,m1.2,k⟩
theorem ddI {f C:Addr} {x q:Str} {st:Stmt} {ps:List Str} (X:K.In h) (G:h.Ns mainGlobals mg) (a:PySem.W.nsIn K mainGlobals x=some (some (.ref C))) (l:LF K f "__init__" q st) (m0:PySem.W.makesIn K C=true) (m1:MF K C "__init__" f) (m3:PySem.W.keepIn K (.ref C)=true) (b:BD "__init__" q st ps):DefI K mg x C q st f ps :=
 let ⟨_,_,_,_,_,_,_,_,_,l,c,k⟩:=l;⟨_,fun_mk l c k,(fun_mk l c k).binds b,⟨m0,m1.1,m1.2,m3⟩,PySem.W.mg_of X G a⟩
abbrev s_NoOne_init:Stmt:=mst 5 0
theorem xi_NoOne (l:LF K 72 "__init__" "NoOne.__init__" s_NoOne_init) (l2:fnT K 72=true) (a1:excInI K 75 72=true) (a2:PySem.W.mroIn K 75 (.type "object")=some true) (a3:PySem.W.takerIn K 75 "who" = some none) (a4:PySem.W.findIn K (.ref 75) "__setattr__" = some (some (.builtin "object.__setattr__"))):XInit K 75 72 "who" "who" :=
 let ⟨_,_,_,_,_,_,_,_,_,l,c,_⟩:=l
 ⟨a1,a2,a3,a4,⟨_,_,_,_,_,_,_,_,_,_,_,_,_,_,_,_,fnT_is l2 l,c,fun _ _=>rfl,rfl,rfl,rfl,rfl,rfl⟩,by decide,by decide⟩
abbrev s_Taken_init:Stmt:=mst 6 0
theorem xi_Taken (l:LF K 91 "__init__" "Taken.__init__" s_Taken_init) (l2:fnT K 91=true) (a1:excInI K 94 91=true) (a2:PySem.W.mroIn K 94 (.type "object")=some true) (a3:PySem.W.takerIn K 94 "taken" = some none) (a4:PySem.W.findIn K (.ref 94) "__setattr__" = some (some (.builtin "object.__setattr__"))):XInit K 94 91 "taken" "taken" :=
 let ⟨_,_,_,_,_,_,_,_,_,l,c,_⟩:=l
 ⟨a1,a2,a3,a4,⟨_,_,_,_,_,_,_,_,_,_,_,_,_,_,_,_,fnT_is l2 l,c,fun _ _=>rfl,rfl,rfl,rfl,rfl,rfl⟩,by decide,by decide⟩
abbrev s_BadJournal_init:Stmt:=mst 9 0
theorem xi_BadJournal (l:LF K 134 "__init__" "BadJournal.__init__" s_BadJournal_init) (l2:fnT K 134=true) (a1:excInI K 137 134=true) (a2:PySem.W.mroIn K 137 (.type "object")=some true) (a3:PySem.W.takerIn K 137 "row" = some none) (a4:PySem.W.findIn K (.ref 137) "__setattr__" = some (some (.builtin "object.__setattr__"))):XInit K 137 134 "row" "row" :=
 let ⟨_,_,_,_,_,_,_,_,_,l,c,_⟩:=l
 ⟨a1,a2,a3,a4,⟨_,_,_,_,_,_,_,_,_,_,_,_,_,_,_,_,fnT_is l2 l,c,fun _ _=>rfl,rfl,rfl,rfl,rfl,rfl⟩,by decide,by decide⟩
def fnG (K:PySem.W.Frag) (f:Addr):Option FuncData:=match K.lookup f with
 | some ⟨_,_,.func fd,_⟩=>some fd
 | _=>none
theorem dd_Roof_move (l:LF K 305 "move" "Roof.move" s_Roof_move) (cl:Cls K 474) (m1:MF K 474 "move" 305) (bp:∀ (S:Setting) (u0 u1 u2:Value),(fnG K 305).map (fun fd=>PySem.W.peek K S (bindArgs fd ⟨[u0,u1,u2],[]⟩))=some (some [(("self" : Str),u0),(("who" : Str),u1),(("house" : Str),u2),(("word" : Str),Value.none)])):DefMK K 474 "move" "Roof.move" s_Roof_move 305 ["self","who","house","word"] ["word"] :=
 let ⟨_,_,_,_,_,_,_,_,_,l,c,k⟩:=l
 ⟨_,fun_mk l c k,⟨fun s us ws _ h1 h2=>match us,ws,kw_len (n:=3) h1 h2,h2 with | [_,_,_],[_],_,_=>.of_eq rfl⟩,fun s us hK h1=>match us,kw_len (n:=3) (m:=1) h1 rfl with | [u0,u1,u2],_=>PySem.W.kp_binds hK fun S=>(by
  have:=bp S u0 u1 u2
  unfold fnG at this
  rw [l] at this
  exact Option.some.inj this),cl,m1.1,m1.2,k⟩
theorem txt_mk {P:Program} {w:World} {fa:Addr} {tS t_MOST_SIGNS t_RANGE_SIZE t_FIRST_RANGE t_LET t_BAR t_FIGURES t_NONE:Nat}
  (X:K.In h) (G:h.Ns mainGlobals mg) (hfa:mg "law" = some (.ref fa))
  (n_RoofError:PySem.W.nsIn K mainGlobals "RoofError" = some (some (.ref 31)))
  (n_BadName:PySem.W.nsIn K mainGlobals "BadName" = some (some (.ref 44)))
  (n_NoHouse:PySem.W.nsIn K mainGlobals "NoHouse" = some (some (.ref 56)))
  (n_NoOne:PySem.W.nsIn K mainGlobals "NoOne" = some (some (.ref 75)))
  (n_Taken:PySem.W.nsIn K mainGlobals "Taken" = some (some (.ref 94)))
  (n_BadRule:PySem.W.nsIn K mainGlobals "BadRule" = some (some (.ref 106)))
  (n_BadTime:PySem.W.nsIn K mainGlobals "BadTime" = some (some (.ref 118)))
  (n_BadJournal:PySem.W.nsIn K mainGlobals "BadJournal" = some (some (.ref 137)))
  (n_Nothing:PySem.W.nsIn K mainGlobals "Nothing" = some (some (.ref 149)))
  (n_KINDS:PySem.W.nsIn K mainGlobals "KINDS" = some (some (.ref 201)))
  (n_FORMS:PySem.W.nsIn K mainGlobals "FORMS" = some (some (.ref 532)))
  (n_SIGNS:PySem.W.nsIn K mainGlobals "SIGNS" = some (some (.str "abcdefghijklmnopqrstuvwxyz0123456789" tS)))
  (n_MOST_SIGNS:PySem.W.nsIn K mainGlobals "MOST_SIGNS" = some (some (.int 8 t_MOST_SIGNS)))
  (n_RANGE_SIZE:PySem.W.nsIn K mainGlobals "RANGE_SIZE" = some (some (.int 100 t_RANGE_SIZE)))
  (n_FIRST_RANGE:PySem.W.nsIn K mainGlobals "FIRST_RANGE" = some (some (.int 100 t_FIRST_RANGE)))
  (n_LET:PySem.W.nsIn K mainGlobals "LET" = some (some (.str "let" t_LET)))
  (n_BAR:PySem.W.nsIn K mainGlobals "BAR" = some (some (.str "bar" t_BAR)))
  (n_FIGURES:PySem.W.nsIn K mainGlobals "FIGURES" = some (some (.str "0123456789" t_FIGURES)))
  (n_NONE:PySem.W.nsIn K mainGlobals "NONE" = some (some (.str "-" t_NONE)))
  (z_isinstance:PySem.W.nsIn K mainGlobals "isinstance" = some none)
  (z_len:PySem.W.nsIn K mainGlobals "len" = some none)
  (z_all:PySem.W.nsIn K mainGlobals "all" = some none)
  (z_sum:PySem.W.nsIn K mainGlobals "sum" = some none)
  (z_max:PySem.W.nsIn K mainGlobals "max" = some none)
  (z_min:PySem.W.nsIn K mainGlobals "min" = some none)
  (z_list:PySem.W.nsIn K mainGlobals "list" = some none)
  (z_int:PySem.W.nsIn K mainGlobals "int" = some none)
  (z_range:PySem.W.nsIn K mainGlobals "range" = some none)
  (z_str:PySem.W.nsIn K mainGlobals "str" = some none)
  (z_tuple:PySem.W.nsIn K mainGlobals "tuple" = some none)
  (z_bool:PySem.W.nsIn K mainGlobals "bool" = some none)
  (z_ValueError:PySem.W.nsIn K mainGlobals "ValueError" = some none)
  (z_enumerate:PySem.W.nsIn K mainGlobals "enumerate" = some none)
  (z_zip:PySem.W.nsIn K mainGlobals "zip" = some none)
  (ex_BadName:PySem.W.excIn K 44 bmV "ValueError.__new__" = true)
  (ex_NoHouse:PySem.W.excIn K 56 bmV "ValueError.__new__" = true)
  (ex_BadRule:PySem.W.excIn K 106 bmV "ValueError.__new__" = true)
  (ex_BadTime:PySem.W.excIn K 118 bmV "ValueError.__new__" = true)
  (ex_Nothing:PySem.W.excIn K 149 bmV "ValueError.__new__" = true)
  (tabs1:itab.map (fun r=>PySem.W.kitOne K r.1 r.2.1)=itab.map (fun r=>some r.2.2))
  (sts:stChk K=true)
  (cts:ct.map (fun r=>PySem.W.findIn K (.ref r.1) r.2)=ct.map (fun _=>some none))
  (xts:xt.map (fun r=>PySem.W.findIn K (.ref r.1) r.2)=xt.map (fun _=>some none))
  (xth:xt.map (fun r=>PySem.W.hasDictIn K r.1)=xt.map (fun _=>true))
  (xc_BadName:XCls K 44)
  (xc_NoHouse:XCls K 56)
  (xc_BadRule:XCls K 106)
  (xc_BadTime:XCls K 118)
  (xc_Nothing:XCls K 149)
  (xc_NoOne:XCls K 75)
  (xc_Taken:XCls K 94)
  (xc_BadJournal:XCls K 137)
  (cl_Ledger:Cls K 196)
  (cl_Roof:Cls K 474)
  (gts:gtS.map (fun r=>tupIn K r.1)=gtS.map (fun r=>some r.2))
  (dF:dctIn K 532=some (kvF.map fun p=>(PySem.PyData.keyHash w.params p.1,p.1,p.2)))
  (hds:tb.all (fun r=>PySem.W.codeHdIn K r.1 r.2.1)=true)
  (xi0:XInit K 75 72 "who" "who")
  (xi1:XInit K 94 91 "taken" "taken")
  (xi2:XInit K 137 134 "row" "row")
  (a3:PySem.W.nsIn K mainGlobals "_law_cell" = some (some (.ref 620)))
  (l3:LF K 620 "_law_cell" "_law_cell" s__law_cell)
  (a4:PySem.W.nsIn K mainGlobals "_law_drawn" = some (some (.ref 627)))
  (l4:LF K 627 "_law_drawn" "_law_drawn" s__law_drawn)
  (a5:PySem.W.nsIn K mainGlobals "_law_roll" = some (some (.ref 634)))
  (l5:LF K 634 "_law_roll" "_law_roll" s__law_roll)
  (a6:PySem.W.nsIn K mainGlobals "_law_rounds" = some (some (.ref 639)))
  (l6:LF K 639 "_law_rounds" "_law_rounds" s__law_rounds)
  (a7:PySem.W.nsIn K mainGlobals "_law_word" = some (some (.ref 644)))
  (l7:LF K 644 "_law_word" "_law_word" s__law_word)
  (a8:PySem.W.nsIn K mainGlobals "is_whole" = some (some (.ref 208)))
  (l8:LF K 208 "is_whole" "is_whole" s_is_whole)
  (a9:PySem.W.nsIn K mainGlobals "is_word" = some (some (.ref 213)))
  (l9:LF K 213 "is_word" "is_word" s_is_word)
  (a10:PySem.W.nsIn K mainGlobals "is_kind" = some (some (.ref 220)))
  (l10:LF K 220 "is_kind" "is_kind" s_is_kind)
  (m11:MF K 196 "__init__" 165)
  (l11:LF K 165 "__init__" "Ledger.__init__" s_Ledger___init__)
  (a11:PySem.W.nsIn K mainGlobals "Ledger" = some (some (.ref 196)))
  (mk11:PySem.W.makesIn K 196=true)
  (kc11:PySem.W.keepIn K (.ref 196)=true)
  (m12:MF K 196 "begin" 172)
  (l12:LF K 172 "begin" "Ledger.begin" s_Ledger_begin)
  (m13:MF K 196 "put" 179)
  (l13:LF K 179 "put" "Ledger.put" s_Ledger_put)
  (m14:MF K 474 "__init__" 248)
  (l14:LF K 248 "__init__" "Roof.__init__" s_Roof___init__)
  (a14:PySem.W.nsIn K mainGlobals "Roof" = some (some (.ref 474)))
  (mk14:PySem.W.makesIn K 474=true)
  (kc14:PySem.W.keepIn K (.ref 474)=true)
  (m15:MF K 474 "check_one" 401)
  (l15:LF K 401 "check_one" "Roof.check_one" s_Roof_check_one)
  (m16:MF K 474 "check_house" 415)
  (l16:LF K 415 "check_house" "Roof.check_house" s_Roof_check_house)
  (m17:MF K 474 "note" 429)
  (l17:LF K 429 "note" "Roof.note" s_Roof_note)
  (m18:MF K 474 "add_range" 436)
  (l18:LF K 436 "add_range" "Roof.add_range" s_Roof_add_range)
  (m19:MF K 474 "give_number" 443)
  (l19:LF K 443 "give_number" "Roof.give_number" s_Roof_give_number)
  (m20:MF K 474 "found" 262)
  (l20:LF K 262 "found" "Roof.found" s_Roof_found)
  (m21:MF K 474 "come" 269)
  (l21:LF K 269 "come" "Roof.come" s_Roof_come)
  (m22:MF K 474 "go" 276)
  (l22:LF K 276 "go" "Roof.go" s_Roof_go)
  (m23:MF K 474 "put_in" 283)
  (l23:LF K 283 "put_in" "Roof.put_in" s_Roof_put_in)
  (m24:MF K 474 "take_out" 290)
  (l24:LF K 290 "take_out" "Roof.take_out" s_Roof_take_out)
  (m25:MF K 474 "call" 297)
  (l25:LF K 297 "call" "Roof.call" s_Roof_call)
  (m26:MF K 474 "move" 305)
  (l26:Cls K 474->MF K 474 "move" 305->DefMK K 474 "move" "Roof.move" s_Roof_move 305 ["self","who","house","word"] ["word"])
  (m27:MF K 474 "merge" 312)
  (l27:LF K 312 "merge" "Roof.merge" s_Roof_merge)
  (m28:MF K 474 "trust" 319)
  (l28:LF K 319 "trust" "Roof.trust" s_Roof_trust)
  (m29:MF K 474 "mistrust" 326)
  (l29:LF K 326 "mistrust" "Roof.mistrust" s_Roof_mistrust)
  (m30:MF K 474 "take_back" 333)
  (l30:LF K 333 "take_back" "Roof.take_back" s_Roof_take_back)
  (m31:MF K 474 "time" 340)
  (l31:LF K 340 "time" "Roof.time" s_Roof_time)
  (m32:MF K 474 "ranges" 354)
  (l32:LF K 354 "ranges" "Roof.ranges" s_Roof_ranges)
  (a33:PySem.W.nsIn K mainGlobals "is_rule" = some (some (.ref 507)))
  (l33:LF K 507 "is_rule" "is_rule" s_is_rule)
  (a34:PySem.W.nsIn K mainGlobals "check_rules" = some (some (.ref 512)))
  (l34:LF K 512 "check_rules" "check_rules" s_check_rules)
  (a35:PySem.W.nsIn K mainGlobals "needless" = some (some (.ref 531)))
  (l35:LF K 531 "needless" "needless" s_needless)
  (a36:PySem.W.nsIn K mainGlobals "fits" = some (some (.ref 549)))
  (l36:LF K 549 "fits" "fits" s_fits)
  (a37:PySem.W.nsIn K mainGlobals "is_row" = some (some (.ref 554)))
  (l37:LF K 554 "is_row" "is_row" s_is_row)
  (a38:PySem.W.nsIn K mainGlobals "is_number_text" = some (some (.ref 559)))
  (l38:LF K 559 "is_number_text" "is_number_text" s_is_number_text)
  (a39:PySem.W.nsIn K mainGlobals "read_number" = some (some (.ref 566)))
  (l39:LF K 566 "read_number" "read_number" s_read_number)
  (a40:PySem.W.nsIn K mainGlobals "read_part" = some (some (.ref 573)))
  (l40:LF K 573 "read_part" "read_part" s_read_part)
  (a41:PySem.W.nsIn K mainGlobals "read_row" = some (some (.ref 578)))
  (l41:LF K 578 "read_row" "read_row" s_read_row)
  (a42:PySem.W.nsIn K mainGlobals "read_journal" = some (some (.ref 585)))
  (l42:LF K 585 "read_journal" "read_journal" s_read_journal)
  (a43:PySem.W.nsIn K mainGlobals "check_time" = some (some (.ref 606)))
  (l43:LF K 606 "check_time" "check_time" s_check_time)
  (a44:PySem.W.nsIn K mainGlobals "as_of" = some (some (.ref 613)))
  (l44:LF K 613 "as_of" "as_of" s_as_of)
  (a45:PySem.W.nsIn K mainGlobals "_law_do" = some (some (.ref 658)))
  (l45:LC K 658 657 "_law_do" s__law_do)
  (a46:PySem.W.nsIn K mainGlobals "_law_alone" = some (some (.ref 670)))
  (l46:LF K 670 "_law_alone" "_law_alone" s__law_alone)
  (a47:PySem.W.nsIn K mainGlobals "_law_told" = some (some (.ref 651)))
  (l47:LF K 651 "_law_told" "_law_told" s__law_told)
  (a48:PySem.W.nsIn K mainGlobals "_law_met" = some (some (.ref 665)))
  (l48:LF K 665 "_law_met" "_law_met" s__law_met)
  (a49:PySem.W.nsIn K mainGlobals "law" = some (some (.ref 675)))
  (l49:LC K 675 674 "law" s_law) :
  ∃ fd:FuncData,(∀ (s:Shared) (u:Value),BindsTo s fd ⟨[u],[]⟩ [("_law_script",u)])/\∀ base:Heap,K.In base->base.Ns mainGlobals mg->(∀ Q ∈ tabs,base.BuiltinsAt mg Q)->FnF P w K mg base tb 8 fa fd ["_law_script"] F_law:=by
 have e:=hfa.symm.trans (PySem.W.mg_of X G a49)
 cases e
 have xcl:∀ C ∈ [44,56,106,118,149,75,94,137],XCls K C:=by
  intro C hC
  simp only [List.mem_cons,List.not_mem_nil,or_false] at hC
  rcases hC with rfl | rfl | rfl | rfl | rfl | rfl | rfl | rfl
  ·exact xc_BadName
  ·exact xc_NoHouse
  ·exact xc_BadRule
  ·exact xc_BadTime
  ·exact xc_Nothing
  ·exact xc_NoOne
  ·exact xc_Taken
  ·exact xc_BadJournal
 have ccl:∀ C ∈ [196,474],Cls K C:=by
  intro C hC
  simp only [List.mem_cons,List.not_mem_nil,or_false] at hC
  rcases hC with rfl | rfl
  ·exact cl_Ledger
  ·exact cl_Roof
 have T:Txt P w K mg:=⟨(tab_mk tabs1 xcl),(gt_of gts),(st_mk sts),(ct_mk cts ccl),(xt_mk xts xth xcl),⟨_,(PySem.W.mg_of X G n_SIGNS)⟩,(PySem.W.mg_of X G n_KINDS),⟨_,(PySem.W.mg_of X G n_MOST_SIGNS)⟩,⟨_,(PySem.W.mg_of X G n_RANGE_SIZE)⟩,⟨_,(PySem.W.mg_of X G n_FIRST_RANGE)⟩,⟨_,(PySem.W.mg_of X G n_LET)⟩,⟨_,(PySem.W.mg_of X G n_BAR)⟩,⟨_,(PySem.W.mg_of X G n_FIGURES)⟩,⟨_,(PySem.W.mg_of X G n_NONE)⟩,(PySem.W.mg_of X G n_RoofError),(PySem.W.mg_of X G n_BadName),(PySem.W.mg_of X G n_NoHouse),(PySem.W.mg_of X G n_NoOne),(PySem.W.mg_of X G n_Taken),(PySem.W.mg_of X G n_BadRule),(PySem.W.mg_of X G n_BadTime),(PySem.W.mg_of X G n_BadJournal),(PySem.W.mg_of X G n_Nothing),(PySem.W.mg_of X G n_FORMS),ex_BadName,ex_NoHouse,ex_BadRule,ex_BadTime,ex_Nothing,xi0,xi1,xi2,(PySem.W.mg_none_of X G z_isinstance),(PySem.W.mg_none_of X G z_len),(PySem.W.mg_none_of X G z_all),(PySem.W.mg_none_of X G z_sum),(PySem.W.mg_none_of X G z_max),(PySem.W.mg_none_of X G z_min),(PySem.W.mg_none_of X G z_list),(PySem.W.mg_none_of X G z_int),(PySem.W.mg_none_of X G z_range),(PySem.W.mg_none_of X G z_str),(PySem.W.mg_none_of X G z_tuple),(PySem.W.mg_none_of X G z_bool),(PySem.W.mg_none_of X G z_ValueError),(PySem.W.mg_none_of X G z_enumerate),(PySem.W.mg_none_of X G z_zip),(ddD X G a3 l3 (fun _ _ _ _ _ _ us hl=>match us,hl with | [_,_],_=>rfl)),(ddD X G a4 l4 (fun _ _ _ _ _ _ us hl=>match us,hl with | [_,_],_=>rfl)),(ddD X G a5 l5 (fun _ _ _ _ _ _ us hl=>match us,hl with | [_,_],_=>rfl)),(ddD X G a6 l6 (fun _ _ _ _ _ _ us hl=>match us,hl with | [_,_],_=>rfl)),(ddD X G a7 l7 (fun _ _ _ _ _ _ us hl=>match us,hl with | [_],_=>rfl)),(ddD X G a8 l8 (fun _ _ _ _ _ _ us hl=>match us,hl with | [_],_=>rfl)),(ddD X G a9 l9 (fun _ _ _ _ _ _ us hl=>match us,hl with | [_],_=>rfl)),(ddD X G a10 l10 (fun _ _ _ _ _ _ us hl=>match us,hl with | [_],_=>rfl)),(ddI X G a11 l11 mk11 m11 kc11 (fun _ _ _ _ _ _ us hl=>match us,hl with | [_],_=>rfl)),(ddM l12 cl_Ledger m12 (fun _ _ _ _ _ _ us hl=>match us,hl with | [_],_=>rfl)),(ddM l13 cl_Ledger m13 (fun _ _ _ _ _ _ us hl=>match us,hl with | [_,_,_,_],_=>rfl)),(ddI X G a14 l14 mk14 m14 kc14 (fun _ _ _ _ _ _ us hl=>match us,hl with | [_],_=>rfl)),(ddM l15 cl_Roof m15 (fun _ _ _ _ _ _ us hl=>match us,hl with | [_,_],_=>rfl)),(ddM l16 cl_Roof m16 (fun _ _ _ _ _ _ us hl=>match us,hl with | [_,_],_=>rfl)),(ddM l17 cl_Roof m17 (fun _ _ _ _ _ _ us hl=>match us,hl with | [_,_],_=>rfl)),(ddM l18 cl_Roof m18 (fun _ _ _ _ _ _ us hl=>match us,hl with | [_,_],_=>rfl)),(ddM l19 cl_Roof m19 (fun _ _ _ _ _ _ us hl=>match us,hl with | [_,_],_=>rfl)),(ddM l20 cl_Roof m20 (fun _ _ _ _ _ _ us hl=>match us,hl with | [_,_],_=>rfl)),(ddM l21 cl_Roof m21 (fun _ _ _ _ _ _ us hl=>match us,hl with | [_,_,_,_],_=>rfl)),(ddM l22 cl_Roof m22 (fun _ _ _ _ _ _ us hl=>match us,hl with | [_,_],_=>rfl)),(ddM l23 cl_Roof m23 (fun _ _ _ _ _ _ us hl=>match us,hl with | [_,_,_],_=>rfl)),(ddM l24 cl_Roof m24 (fun _ _ _ _ _ _ us hl=>match us,hl with | [_,_,_],_=>rfl)),(ddM l25 cl_Roof m25 (fun _ _ _ _ _ _ us hl=>match us,hl with | [_,_,_],_=>rfl)),(l26 cl_Roof m26),(ddM l27 cl_Roof m27 (fun _ _ _ _ _ _ us hl=>match us,hl with | [_,_,_],_=>rfl)),(ddM l28 cl_Roof m28 (fun _ _ _ _ _ _ us hl=>match us,hl with | [_,_,_],_=>rfl)),(ddM l29 cl_Roof m29 (fun _ _ _ _ _ _ us hl=>match us,hl with | [_,_,_],_=>rfl)),(ddM l30 cl_Roof m30 (fun _ _ _ _ _ _ us hl=>match us,hl with | [_],_=>rfl)),(ddM l31 cl_Roof m31 (fun _ _ _ _ _ _ us hl=>match us,hl with | [_],_=>rfl)),(ddM l32 cl_Roof m32 (fun _ _ _ _ _ _ us hl=>match us,hl with | [_,_],_=>rfl)),(ddD X G a33 l33 (fun _ _ _ _ _ _ us hl=>match us,hl with | [_],_=>rfl)),(ddD X G a34 l34 (fun _ _ _ _ _ _ us hl=>match us,hl with | [_],_=>rfl)),(ddD X G a35 l35 (fun _ _ _ _ _ _ us hl=>match us,hl with | [_,_],_=>rfl)),(ddD X G a36 l36 (fun _ _ _ _ _ _ us hl=>match us,hl with | [_,_],_=>rfl)),(ddD X G a37 l37 (fun _ _ _ _ _ _ us hl=>match us,hl with | [_],_=>rfl)),(ddD X G a38 l38 (fun _ _ _ _ _ _ us hl=>match us,hl with | [_],_=>rfl)),(ddD X G a39 l39 (fun _ _ _ _ _ _ us hl=>match us,hl with | [_],_=>rfl)),(ddD X G a40 l40 (fun _ _ _ _ _ _ us hl=>match us,hl with | [_,_],_=>rfl)),(ddD X G a41 l41 (fun _ _ _ _ _ _ us hl=>match us,hl with | [_],_=>rfl)),(ddD X G a42 l42 (fun _ _ _ _ _ _ us hl=>match us,hl with | [_],_=>rfl)),(ddD X G a43 l43 (fun _ _ _ _ _ _ us hl=>match us,hl with | [_,_],_=>rfl)),(ddD X G a44 l44 (fun _ _ _ _ _ _ us hl=>match us,hl with | [_,_],_=>rfl)),(ddC X G a45 l45 (fun _ _ _ _ _ _ us hl=>match us,hl with | [_,_],_=>rfl)),(ddD X G a46 l46 (fun _ _ _ _ _ _ us hl=>match us,hl with | [_,_],_=>rfl)),(ddD X G a47 l47 (fun _ _ _ _ _ _ us hl=>match us,hl with | [_],_=>rfl)),(ddD X G a48 l48 (fun _ _ _ _ _ _ us hl=>match us,hl with | [_],_=>rfl)),(topD_of dF (by decide) (by decide +kernel))⟩
 obtain ⟨fd,hb,hf⟩:=f_law (P:=P) (w:=w) T (ddC X G a49 l49 (fun _ _ _ _ _ _ us hl=>match us,hl with | [_],_=>rfl)).1
 exact ⟨fd,hb,fun base hK hG hB=>hf base fun c Q q hq=>⟨PySem.W.codeHd_of_K hK (List.all_eq_true.mp hds (c,Q,q) hq),hB Q (tb_tabs c Q q hq)⟩⟩
end
end K61
set_option exponentiation.threshold 500
namespace K61
open PySem PySem.Spec PyProof.Rows L2 FX FS
section
variable {h h1 h2:VH} {τ:Tau}
theorem mul_c {i j:Int} (hj:-(2 ^ 64) < j/\j < 2 ^ 64):gMul (.int i) (.int j) h=.ok (.int (i * j)) h:=by
 unfold gMul;simp only [];rw [if_pos (.inr (.inl hj))];rfl
theorem mul_n {i j:Int} (hi:i.natAbs < 2 ^ 400) (hj:j.natAbs < 2 ^ 400):gMul (.int i) (.int j) h=.ok (.int (i * j)) h:=by
 unfold gMul;simp only [];rw [if_pos (.inr (.inr ⟨hi,hj⟩))];rfl
theorem mod_p {i j:Int} (hj:0 < j):gMod (.int i) (.int j) h=.ok (.int (i % j)) h:=by
 unfold gMod;simp only [];rw [if_pos hj];rfl
theorem div_p {i j:Int} (hj:0 < j/\j < 2 ^ 400):gDiv (.int i) (.int j) h=.ok (.int (i / j)) h:=by
 unfold gDiv;simp only [];rw [if_pos hj];rfl
theorem nb {m M:Int} (h0:0<=m) (h1:m<=M) (hM:M < 2 ^ 400):m.natAbs < 2 ^ 400:=by
 have e:(m.natAbs:Int)=m:=Int.natAbs_of_nonneg h0
 have:(m.natAbs:Int) < 2 ^ 400:=by rw [e];exact Int.lt_of_le_of_lt h1 hM
 exact_mod_cast this
abbrev M1:Int:=340282366920938463463374607431768211507
abbrev M2:Int:=340282366920938463463374607431768211297
abbrev P0:Int:=18446744073709551557
theorem drawn_ok (c j:Int):∃ r,0<=r/\∀ h,F__law_drawn [.int c,.int j] h=.ok (.int r) h:=by
 have b1:0<=(c * 6364136223846793005 + (j + 1) * 1442695040888963407) % M1:=Int.emod_nonneg _ (by decide)
 have b2:(c * 6364136223846793005 + (j + 1) * 1442695040888963407) % M1 < M1:=Int.emod_lt_of_pos _ (by decide)
 generalize hm1:(c * 6364136223846793005 + (j + 1) * 1442695040888963407) % M1=m1 at b1 b2
 have n1:=nb b1 (Int.le_of_lt b2) (by decide)
 have b3:0<=m1 * m1 % M2:=Int.emod_nonneg _ (by decide)
 have b4:m1 * m1 % M2 < M2:=Int.emod_lt_of_pos _ (by decide)
 generalize hm2:m1 * m1 % M2=m2 at b3 b4
 have n2:=nb b3 (Int.le_of_lt b4) (by decide)
 have b5:0<=m2 % P0:=Int.emod_nonneg _ (by decide)
 have b6:m2 % P0 < P0:=Int.emod_lt_of_pos _ (by decide)
 have b7:0<=m2 / P0:=Int.ediv_nonneg b3 (by decide)
 have b8:m2 / P0<=m2:=Int.ediv_le_self _ b3
 have c1:0<=m2 % P0 + 1:=by omega
 have c2:m2 % P0 + 1<=P0:=by omega
 have c3:0<=m2 / P0 + 1:=by omega
 have c4:m2 / P0 + 1<=M2:=by omega
 have n3:=nb c1 c2 (by decide)
 have n4:=nb c3 c4 (by decide)
 have n5:((m2 % P0 + 1) * (m2 / P0 + 1)).natAbs < 2 ^ 400:=nb (Int.mul_nonneg c1 c3) (Int.mul_le_mul c2 c4 c3 (by decide)) (by decide)
 refine ⟨(m2 % P0 + 1) * (m2 / P0 + 1) * m2 % M1,Int.emod_nonneg _ (by decide),fun h=>run_ret ?_⟩
 unfold g__law_drawn
 have s1:(sAsg (fOp gMod (fOp gPlus (fOp gMul (fVar 0) (fC (.int 6364136223846793005))) (fOp gMul (fOp gPlus (fVar 1) (fC (.int 1))) (fC (.int 1442695040888963407)))) (fC (.int 340282366920938463463374607431768211507))) (gN 2)) [some (.int c),some (.int j),none] h=.next [some (.int c),some (.int j),some (.int m1)] h:=by
  refine asgN_ok ((op_ok ((op_ok ((op_ok rfl rfl).trans (mul_c (by decide))) ((op_ok (x:=.int (j + 1)) rfl rfl).trans (mul_c (by decide)))).trans rfl) rfl).trans ((mod_p (by decide)).trans ?_))
  rw [hm1]
 have s2:(sAsg (fOp gMod (fOp gMul (fVar 2) (fVar 2)) (fC (.int 340282366920938463463374607431768211297))) (gN 2)) [some (.int c),some (.int j),some (.int m1)] h=.next [some (.int c),some (.int j),some (.int m2)] h:=by
  refine asgN_ok ((op_ok ((op_ok rfl rfl).trans (mul_n n1 n1)) rfl).trans ((mod_p (by decide)).trans ?_))
  rw [hm2]
 have s3:(sAsg (fOp gMul (fOp gMul (fOp gPlus (fOp gMod (fVar 2) (fC (.int 18446744073709551557))) (fC (.int 1))) (fOp gPlus (fOp gDiv (fVar 2) (fC (.int 18446744073709551557))) (fC (.int 1)))) (fVar 2)) (gN 2)) [some (.int c),some (.int j),some (.int m2)] h=.next [some (.int c),some (.int j),some (.int ((m2 % P0 + 1) * (m2 / P0 + 1) * m2))] h:=by
  have q1:(fOp gPlus (fOp gMod (fVar 2) (fC (.int 18446744073709551557))) (fC (.int 1))) [some (.int c),some (.int j),some (.int m2)] h=.ok (.int (m2 % P0 + 1)) h:=(op_ok ((op_ok rfl rfl).trans (mod_p (j:=P0) (by decide))) rfl).trans rfl
  have q2:(fOp gPlus (fOp gDiv (fVar 2) (fC (.int 18446744073709551557))) (fC (.int 1))) [some (.int c),some (.int j),some (.int m2)] h=.ok (.int (m2 / P0 + 1)) h:=(op_ok ((op_ok rfl rfl).trans (div_p (j:=P0) (by decide))) rfl).trans rfl
  exact asgN_ok ((op_ok ((op_ok q1 q2).trans (mul_n n3 n4)) rfl).trans (mul_n n5 n2))
 refine (seq_ok s1).trans ((seq_ok s2).trans ((seq_ok s3).trans (ret_ok ((op_ok rfl rfl).trans (mod_p (by decide))))))
theorem set_at {h:VH} {d:Nat} {o u:VO} (e:h[d]?=some o):(h.set d u)[d]?=some u:=by
 rw [List.getElem?_set_self (List.getElem?_eq_some_iff.mp e).1]
theorem asgS_ok {fe fo fi:FE} {v:PV} {l j:Nat} {k:Int} {xs:List PV} (e1:fe τ h=.ok v h1) (e2:fo τ h1=.ok (.ref l) h1) (e3:fi τ h1=.ok (.int k) h1) (e4:h1[l]?=some (.lst xs)) (e5:ixN xs.length k=some j):sAsg fe (gSetL fo fi) τ h=.next τ (h1.set l (.lst (xs.set j v))):=by
 unfold sAsg
 rw [then_ok e1]
 simp only [gSetL,e2,e3,e4,e5]
theorem roll_ok {d:Nat} {c j m:Int} (hd:h[d]?=some (.lst [.int c,.int j])) (hm:0 < m/\m < 2 ^ 400):∃ c' j' r,0<=r/\r < m/\F__law_roll [.ref d,.int m] h=.ok (.int r) (h.set d (.lst [.int c',.int j'])):=by
 have i0:(fOp gIx (fVar 0) (fC (.int 0))) [some (.ref d),some (.int m),none] h=.ok (.int c) h:=(op_ok rfl rfl).trans (ix_ok (ls_at hd) rfl)
 have te:(fB (fOp (gI fun i j=>decide (j<=i)) (fOp gIx (fVar 0) (fC (.int 0))) (fOp gPow (fC (.int 10)) (fC (.int 18))))) [some (.ref d),some (.int m),none] h=.ok (decide ((10:Int) ^ 18<=c)) h:=b_ok ((op_ok i0 (y:=.int (10 ^ 18)) (h2:=h) rfl).trans rfl)
 by_cases hc:(10:Int) ^ 18<=c
 ·refine ⟨c / m,j,c % m,Int.emod_nonneg _ (by omega),Int.emod_lt_of_pos _ hm.1,run_ret ?_⟩
  unfold g__law_roll
  refine seq_ret ((if_ok te).trans ?_)
  rw [if_pos (decide_eq_true hc)]
  have i0':(fOp gIx (fVar 0) (fC (.int 0))) [some (.ref d),some (.int m),some (.int (c % m))] h=.ok (.int c) h:=(op_ok rfl rfl).trans (ix_ok (ls_at hd) rfl)
  refine (seq_ok (asgN_ok ((op_ok i0 rfl).trans (mod_p hm.1)))).trans ((seq_ok (asgS_ok (xs:=[.int c,.int j]) (j:=0) (k:=0) ((op_ok i0' rfl).trans (div_p hm)) rfl rfl hd rfl)).trans rfl)
 ·obtain ⟨r,r0,hr⟩:=drawn_ok c (j + 1)
  refine ⟨c,j + 1,r / 8 % m,Int.emod_nonneg _ (by omega),Int.emod_lt_of_pos _ hm.1,run_ret ?_⟩
  unfold g__law_roll
  have hn:(sIf (fB (fOp (gI fun i j=>decide (j<=i)) (fOp gIx (fVar 0) (fC (.int 0))) (fOp gPow (fC (.int 10)) (fC (.int 18))))) (sSeq (sAsg (fOp gMod (fOp gIx (fVar 0) (fC (.int 0))) (fVar 1)) (gN 2)) (sSeq (sAsg (fOp gDiv (fOp gIx (fVar 0) (fC (.int 0))) (fVar 1)) (gSetL (fVar 0) (fC (.int 0)))) (sRet (fVar 2)))) sNext) [some (.ref d),some (.int m),none] h=.next [some (.ref d),some (.int m),none] h:=by
   refine (if_ok te).trans ?_
   rw [if_neg (by simpa using hc)]
   rfl
  have i1:(fOp gIx (fVar 0) (fC (.int 1))) [some (.ref d),some (.int m),none] h=.ok (.int j) h:=(op_ok rfl rfl).trans (ix_ok (ls_at hd) rfl)
  have hs:=set_at (u:=.lst [.int c,.int (j + 1)]) hd
  have s2:(sAsg (fOp gPlus (fOp gIx (fVar 0) (fC (.int 1))) (fC (.int 1))) (gSetL (fVar 0) (fC (.int 1)))) [some (.ref d),some (.int m),none] h=.next [some (.ref d),some (.int m),none] (h.set d (.lst [.int c,.int (j + 1)])):=asgS_ok (xs:=[.int c,.int j]) (j:=1) (k:=1) ((op_ok i1 rfl).trans rfl) rfl rfl hd rfl
  have j0:(fOp gIx (fVar 0) (fC (.int 0))) [some (.ref d),some (.int m),none] (h.set d (.lst [.int c,.int (j + 1)]))=.ok (.int c) (h.set d (.lst [.int c,.int (j + 1)])):=(op_ok rfl rfl).trans (ix_ok (ls_at hs) rfl)
  have j1:(fOp gIx (fVar 0) (fC (.int 1))) [some (.ref d),some (.int m),none] (h.set d (.lst [.int c,.int (j + 1)]))=.ok (.int (j + 1)) (h.set d (.lst [.int c,.int (j + 1)])):=(op_ok rfl rfl).trans (ix_ok (ls_at hs) rfl)
  refine (seq_ok hn).trans ((seq_ok s2).trans (ret_ok ((op_ok ((op_ok ((call_ok (cons_ok j0 (cons_ok j1 nil_ok)) rfl).trans (hr _)) rfl).trans (div_p (by decide))) rfl).trans (mod_p hm.1))))
theorem cell_ok {ns:List Int} {k:Nat} (hk:k < 5) (hl:ns.length<=63) (h0:h[0]?=some (.scr ns)):∃ c,F__law_cell [.ref 0,.int k] h=.ok (.int c) (h++[.lst []]):=by
 have l0:lsOf (h++[.lst []]) 0=some (ns.map PV.int):=by unfold lsOf;rw [at_pre _ h0]
 have l1:lsOf (h++[.lst []]) h.length=some []:=ls_at (at_end h _ [])
 have gl:gLen [.ref 0] (h++[.lst []])=.ok (.int ns.length) (h++[.lst []]):=by
  unfold gLen;simp only [l0,List.length_map]
 have te:∀ b,eqF (h++[.lst []]) 40 (.ref 0) (.ref h.length)=some b->(fB (fOp gEq (fVar 0) (fLst aNil))) [some (.ref 0),some (.int k)] h=.ok b (h++[.lst []]):=fun b hb=>b_ok ((op_ok rfl (lst_ok nil_ok (by decide))).trans (by unfold gEq;rw [hb]))
 cases ns with
 | nil =>
  have hb:eqF (h++[.lst []]) 40 (.ref 0) (.ref h.length)=some true:=by
   unfold eqF
   simp only [kd,l0,l1]
   rfl
  refine ⟨k * 7919,run_ret (seq_ret ((if_ok (te _ hb)).trans ?_))⟩
  exact ret_ok ((op_ok rfl rfl).trans (mul_c (by decide)))
 | cons n t =>
  have hb:eqF (h++[.lst []]) 40 (.ref 0) (.ref h.length)=some false:=by
   unfold eqF
   simp only [kd,l0,l1]
   rfl
  have p0:(0:Int) < ((n :: t).length:Int):=by simp
  have p1:((n :: t).length:Int) < 2 ^ 400:=Int.lt_of_le_of_lt (show ((n :: t).length:Int)<=63 by omega) (by decide)
  have q0:0<=(k:Int) % ((n :: t).length:Int):=Int.emod_nonneg _ (by omega)
  have q1:(k:Int) % ((n :: t).length:Int) < ((n :: t).length:Int):=Int.emod_lt_of_pos _ p0
  obtain ⟨v,hv⟩:∃ v,atI ((n :: t).map PV.int) ((k:Int) % ((n :: t).length:Int))=some (.int v):=by
   unfold atI ixN
   rw [if_pos q0,List.length_map,if_pos q1]
   refine ⟨(n :: t)[((k:Int) % ((n :: t).length:Int)).toNat]'(by omega),?_⟩
   simp only [Option.bind_some,List.getElem?_map]
   rw [List.getElem?_eq_getElem (by omega)]
   rfl
  refine ⟨v + (k:Int) / ((n :: t).length:Int) * 104729,run_ret ((seq_ok (τ1:=[some (.ref 0),some (.int k)]) (h1:=h++[.lst []]) ((if_ok (te _ hb)).trans rfl)).trans ?_)⟩
  have ll:(fCB gLen (aCons (fVar 0) aNil)) [some (.ref 0),some (.int k)] (h++[.lst []])=.ok (.int (n :: t).length) (h++[.lst []]):=(cb_ok (cons_ok (var_ok rfl) nil_ok)).trans gl
  refine ret_ok ((op_ok ((op_ok (var_ok rfl) ((op_ok (var_ok rfl) ll).trans (mod_p p0))).trans (ix_ok l0 hv)) ((op_ok ((op_ok (var_ok rfl) ll).trans (div_p ⟨p0,p1⟩)) c_ok).trans (mul_c (by decide)))).trans rfl)
def Dice (ds:List Nat) (h:VH):Prop:=h[1]?=some (.lst (ds.map PV.ref))/\∀ d ∈ ds,d ≠ 1/\∃ c j,h[d]?=some (.lst [.int c,.int j])
theorem Dice.ext {ds:List Nat} (D:Dice ds h) (e:VH):Dice ds (h++e):=⟨at_pre e D.1,fun d hd=>⟨(D.2 d hd).1,let ⟨c,j,q⟩:=(D.2 d hd).2;⟨c,j,at_pre e q⟩⟩⟩
theorem rounds_comp {ns:List Int} {n:Nat} (hn:n<=5) (hl:ns.length<=63):∀ (m i:Nat) (ds:List Nat) (τ:Tau) (h:VH),n - i < m->ds.length=i->(∃ t,τ=[t,some (.ref 0)])->h[0]?=some (.scr ns)->Dice ds h ->
  ∃ ds' h',ds'.length=max n i/\Dice ds' h'/\compF (srcR 0 n) (gN 0) tYes (fLst (aCons (fCall F__law_cell 2 (aCons (fVar 1) (aCons (fVar 0) aNil))) (aCons (fC (.int 0)) aNil))) 1 m i τ h=.ok () h'
 | 0,i,ds,τ,h,hm,_,_,_,_=>by omega
 | m + 1,i,ds,τ,h,hm,hd,hτ,h0,D=>by
  obtain ⟨t,rfl⟩:=hτ
  unfold compF
  have hsrc:srcR 0 n i h=some (if i < n then some (.int (0 + i)) else none):=rfl
  rw [hsrc]
  by_cases hi:i < n
  ·simp only [if_pos hi,gN,tYes,M.ret,List.set_cons_zero,Int.zero_add]
   obtain ⟨c,hc⟩:=cell_ok (k:=i) (by omega) hl h0
   have e:(fLst (aCons (fCall F__law_cell 2 (aCons (fVar 1) (aCons (fVar 0) aNil))) (aCons (fC (.int 0)) aNil))) [some (.int i),some (.ref 0)] h=.ok (.ref (h++[VO.lst []]).length) (h++[.lst []]++[.lst [.int c,.int 0]]) :=
    lst_ok (cons_ok ((call_ok (cons_ok (var_ok rfl) (cons_ok (var_ok rfl) nil_ok)) rfl).trans hc) (cons_ok c_ok nil_ok)) (show 2<=big by decide)
   rw [e]
   have D1:Dice ds (h++[.lst []]++[.lst [.int c,.int 0]]):=(D.ext _).ext _
   simp only [D1.1]
   have hlt:1 < h.length:=(List.getElem?_eq_some_iff.mp D.1).1
   rw [if_pos (by rw [List.length_map,hd];unfold big;omega)]
   generalize hH:h++[VO.lst []]++[VO.lst [.int c,.int 0]]=H at *
   have hlen:(h++[VO.lst []]).length < H.length:=by rw [<- hH];simp
   have hat:H[(h++[VO.lst []]).length]?=some (.lst [.int c,.int 0]):=by rw [<- hH];exact at_end _ _ []
   have hne:(h++[VO.lst []]).length ≠ 1:=by rw [List.length_append];show h.length + 1 ≠ 1;omega
   have D2:Dice (ds++[(h++[VO.lst []]).length]) (H.set 1 (.lst (ds.map PV.ref++[.ref (h++[VO.lst []]).length]))):=by
    refine ⟨by rw [set_at D1.1];simp,fun d hd=>?_⟩
    rw [List.mem_append] at hd
    rcases hd with hd | hd
    ·obtain ⟨n1,c',j',q⟩:=D1.2 d hd
     exact ⟨n1,c',j',by rw [List.getElem?_set_ne (fun z=>n1 z.symm)];exact q⟩
    ·rw [List.mem_singleton] at hd
     subst hd
     exact ⟨hne,c,0,by rw [List.getElem?_set_ne (fun z=>hne z.symm)];exact hat⟩
   have h0':(H.set 1 (.lst (ds.map PV.ref++[.ref (h++[VO.lst []]).length])))[0]?=some (.scr ns):=by
    rw [List.getElem?_set_ne (by decide),<- hH];exact at_pre _ (at_pre _ h0)
   obtain ⟨ds',h',l',D',e'⟩:=rounds_comp hn hl m (i + 1) (ds++[(h++[VO.lst []]).length]) [some (.int i),some (.ref 0)] _ (by omega) (by simp [hd]) ⟨_,rfl⟩ h0' D2
   exact ⟨ds',h',by omega,D',e'⟩
  ·simp only [if_neg hi]
   exact ⟨ds,h,by omega,D,rfl⟩
theorem rounds_ok {ns:List Int} (hl:ns.length<=63):∃ ds h',ds.length<=4/\Dice ds h'/\F__law_rounds [.ref 0,.int 4] [.scr ns]=.ok (.ref 1) h':=by
 have hmn:∃ n:Nat,n<=4/\(fCB gMax (aCons (fC (.int 1)) (aCons (fCB gMin (aCons (fVar 1) (aCons (fCB gLen (aCons (fVar 0) aNil)) aNil))) aNil))) [some (.ref 0),some (.int 4)] [.scr ns]=.ok (.int n) [.scr ns]:=by
  have gl:gLen [.ref 0] [.scr ns]=.ok (.int ns.length) [.scr ns]:=by
   unfold gLen;simp only [show lsOf [.scr ns] 0=some (ns.map PV.int) from rfl,List.length_map]
  have e:(fCB gMax (aCons (fC (.int 1)) (aCons (fCB gMin (aCons (fVar 1) (aCons (fCB gLen (aCons (fVar 0) aNil)) aNil))) aNil))) [some (.ref 0),some (.int 4)] [.scr ns]=.ok (.int (if (if (ns.length:Int) < 4 then (ns.length:Int) else 4) > 1 then (if (ns.length:Int) < 4 then (ns.length:Int) else 4) else 1)) [.scr ns] :=
   (cb_ok (cons_ok c_ok (cons_ok ((cb_ok (cons_ok (var_ok rfl) (cons_ok ((cb_ok (cons_ok (var_ok rfl) nil_ok)).trans gl) nil_ok))).trans rfl) nil_ok))).trans rfl
  refine ⟨(if (if (ns.length:Int) < 4 then (ns.length:Int) else 4) > 1 then (if (ns.length:Int) < 4 then (ns.length:Int) else 4) else 1).toNat,?_,?_⟩
  ·split <;> split <;> omega
  ·rw [e]
   congr 2
   split <;> split <;> omega
 obtain ⟨n,hn,e⟩:=hmn
 obtain ⟨ds,h',l',D',e'⟩:=rounds_comp (n:=n) (Nat.le_trans hn (by decide)) hl (n + 1) 0 [] [none,some (.ref 0)] [.scr ns,.lst []] (by omega) rfl ⟨_,rfl⟩ rfl ⟨rfl,fun d hd=>by cases hd⟩
 refine ⟨ds,h',by omega,D',run_ret (ret_ok ?_)⟩
 unfold fCompR
 refine (bind_ok (cons_ok e nil_ok)).trans ?_
 simp only []
 rw [if_pos (by constructor <;> omega)]
 have e2:startC 1 [0] (FS.startT N__law_rounds [.ref 0,.int 4])=[none,some (.ref 0)]:=rfl
 rw [e2]
 simp only [Int.toNat_natCast]
 have e3:([.scr ns]:VH).length=1:=rfl
 rw [e3]
 have e4:([VO.scr ns]++[VO.lst []]:VH)=[.scr ns,.lst []]:=rfl
 rw [e4]
 rw [e']
def tau0:Tau:=(blank 6).set 1 (some (.ref 0))
def TurnOk:Prop:=∀ c j:Int,∃ τ1 h1 c' j',g_turn tau0 [.lst [.int c,.int j]]=.next τ1 h1/\h1[0]?=some (.lst [.int c',.int j'])
theorem turns_ok {ds:List Nat} (ht:TurnOk) (hlen:∀ c j τ1 h1,g_turn tau0 [.lst [.int c,.int j]]=.next τ1 h1->τ1.length=6):∀ (n i:Nat) (τ:Tau) (h:VH),Dice ds h->τ.length=6->ds.length - i < n->∃ τ' h',loopF (srcL 1) (gN 1) (sForg 1 g_turn) n i τ h=.next τ' h'
 | 0,i,τ,h,D,T,hn=>by omega
 | n + 1,i,τ,h,D,T,hn=>by
  unfold loopF
  have hs:srcL 1 i h=some (ds.map PV.ref)[i]?:=by unfold srcL;rw [ls_at D.1]
  rw [hs]
  cases e:ds[i]? with
  | none =>
   rw [List.getElem?_map,e]
   exact ⟨τ,h,rfl⟩
  | some d =>
   rw [List.getElem?_map,e]
   have hi:=(List.getElem?_eq_some_iff.mp e).1
   have hd:=List.mem_of_getElem? e
   obtain ⟨n1,c,j,q⟩:=D.2 d hd
   have hT:(τ.set 1 (some (.ref d))).length=6:=by rw [List.length_set];exact T
   have hS:(τ.set 1 (some (.ref d)))[1]?=some (some (.ref d)):=by rw [List.getElem?_set_self (by omega)]
   obtain ⟨τ1,h1,c',j',e1,e2⟩:=ht c j
   have es:sForg 1 g_turn (τ.set 1 (some (.ref d))) h=.next (blank τ1.length) (h.set d (.lst [.int c',.int j'])):=by
    unfold sForg
    rw [hS]
    simp only [q]
    rw [if_pos (show [PV.int c,PV.int j].all FS.plain=true from rfl),hT]
    have e1':g_turn ((blank 6).set 1 (some (.ref 0))) [.lst [.int c,.int j]]=.next τ1 h1:=e1
    rw [e1']
    unfold forgO
    simp only [e2]
    rw [if_pos (show [PV.int c',PV.int j'].all FS.plain=true from rfl)]
   have D':Dice ds (h.set d (.lst [.int c',.int j'])):=by
    refine ⟨by rw [List.getElem?_set_ne n1];exact D.1,fun x hx=>⟨(D.2 x hx).1,?_⟩⟩
    by_cases hxd:x=d
    ·subst hxd;exact ⟨c',j',set_at q⟩
    ·obtain ⟨c2,j2,q2⟩:=(D.2 x hx).2
     exact ⟨c2,j2,by rw [List.getElem?_set_ne (Ne.symm hxd)];exact q2⟩
   simp only [Option.map_some,gN]
   rw [es]
   exact turns_ok ht hlen n (i + 1) _ _ D' (by rw [blank,List.length_replicate];exact hlen c j τ1 h1 e1) (by omega)
theorem law_of (ht:TurnOk) (hlen:∀ c j τ1 h1,g_turn tau0 [.lst [.int c,.int j]]=.next τ1 h1->τ1.length=6) (ns:List Int) (hl:ns.length<=63):∃ vh',F_law [.ref 0] [.scr ns]=.ok (.bl true) vh':=by
 obtain ⟨ds,h1,l5,D,e⟩:=rounds_ok hl
 obtain ⟨τ',h',er⟩:=turns_ok ht hlen (ds.length + 1) 0 (FS.startT N_law [.ref 0]) h1 D rfl (by omega)
 have ln:lenL h1 1=ds.length:=by unfold lenL;rw [ls_at D.1];exact List.length_map _
 have ec:(fCall F__law_rounds 2 (aCons (fVar 0) (aCons (fC (.int 4)) aNil))) (FS.startT N_law [.ref 0]) [.scr ns]=.ok (.ref 1) h1:=(call_ok (cons_ok (var_ok rfl) (cons_ok c_ok nil_ok)) rfl).trans e
 have ef:(sForL (fCall F__law_rounds 2 (aCons (fVar 0) (aCons (fC (.int 4)) aNil))) (gN 1) (sForg 1 g_turn)) (FS.startT N_law [.ref 0]) [.scr ns]=.next τ' h':=by
  unfold sForL
  rw [ec]
  simp only [ln]
  exact er
 exact ⟨h',run_ret ((seq_ok ef).trans (ret_ok c_ok))⟩
end
end K61
set_option exponentiation.threshold 500
namespace K61
open PySem PySem.Spec PyProof.Rows L2 FX FS
section
def rollE (m:Int):FE:=(fCall F__law_roll 2 (aCons (fVar 1) (aCons (fC (.int m)) aNil)))
def g0 (r:FE):FSt:=(sAsg (fOp gPlus2 (fC (.int 1)) r) (gN 2))
def rest:FSt:=(sSeq g_law_1 (sSeq g_law_2 (sSeq g_law_3 (sSeq g_law_4 (sSeq g_law_5 (sSeq g_law_6 (sSeq g_law_7 (sSeq g_law_8 (sSeq g_law_9 (sSeq g_law_10 (sSeq g_law_11 g_law_12)))))))))))
theorem turn_is:g_turn=sSeq (g0 (rollE 9)) rest:=rfl
def fix (k c' j':Int):FE:=fun _ h=>.ok (.int k) (h.set 0 (.lst [.int c',.int j']))
theorem g0_at (r:FE) (c j:Int):g0 r tau0 [.lst [.int c,.int j]]=g0 (fun _ _=>r tau0 [.lst [.int c,.int j]]) tau0 [.lst [.int c,.int j]]:=by kernel_rfl
theorem g0_next (k c j c' j':Int):g0 (fix k c' j') tau0 [.lst [.int c,.int j]]=.next (tau0.set 2 (some (.int (1 + k)))) [.lst [.int c',.int j']]:=by kernel_rfl
theorem roll_at {τ:Tau} {h:VH} {c j m:Int} (h1:τ[1]?=some (some (.ref 0))) (h0:h[0]?=some (.lst [.int c,.int j])) (hm:0 < m/\m < 2 ^ 400):∃ r c' j',0<=r/\r < m/\rollE m τ h=fix r c' j' τ h:=by
 obtain ⟨c',j',k,k0,k9,e⟩:=roll_ok (m:=m) h0 hm
 exact ⟨k,c',j',k0,k9,(call_ok (cons_ok (var_ok h1) (cons_ok c_ok nil_ok)) rfl).trans e⟩
def nxL:Fl->Option VO
 | .next τ h=>if τ.length=6 then h[(0:Nat)]? else none
 | _=>none
theorem nxL_is {f:Fl} {o:VO} (e:nxL f=some o):∃ τ h,f=.next τ h/\h[0]?=some o/\τ.length=6:=by
 cases f with
 | next τ h =>
  unfold nxL at e
  simp only at e
  by_cases q:τ.length=6
  ·rw [if_pos q] at e;exact ⟨τ,h,rfl,e,q⟩
  ·rw [if_neg q] at e;cases e
 | _=>cases e
theorem r_0 (c j:Int):nxL (rest (tau0.set 2 (some (.int (1 + 0)))) [.lst [.int c,.int j]])=some (.lst [.int c,.int j]):=by kernel_rfl
theorem r_1 (c j:Int):nxL (rest (tau0.set 2 (some (.int (1 + 1)))) [.lst [.int c,.int j]])=some (.lst [.int c,.int j]):=by kernel_rfl
theorem r_2 (c j:Int):nxL (rest (tau0.set 2 (some (.int (1 + 2)))) [.lst [.int c,.int j]])=some (.lst [.int c,.int j]):=by kernel_rfl
theorem r_3 (c j:Int):nxL (rest (tau0.set 2 (some (.int (1 + 3)))) [.lst [.int c,.int j]])=some (.lst [.int c,.int j]):=by kernel_rfl
theorem r_4 (c j:Int):nxL (rest (tau0.set 2 (some (.int (1 + 4)))) [.lst [.int c,.int j]])=some (.lst [.int c,.int j]):=by kernel_rfl
theorem r_5 (c j:Int):nxL (rest (tau0.set 2 (some (.int (1 + 5)))) [.lst [.int c,.int j]])=some (.lst [.int c,.int j]):=by kernel_rfl
theorem r_6 (c j:Int):nxL (rest (tau0.set 2 (some (.int (1 + 6)))) [.lst [.int c,.int j]])=some (.lst [.int c,.int j]):=by kernel_rfl
theorem r_7 (c j:Int):nxL (rest (tau0.set 2 (some (.int (1 + 7)))) [.lst [.int c,.int j]])=some (.lst [.int c,.int j]):=by kernel_rfl
theorem r_8 (c j:Int):nxL (rest (tau0.set 2 (some (.int (1 + 8)))) [.lst [.int c,.int j]])=some (.lst [.int c,.int j]):=by kernel_rfl
theorem r_all {k:Int} (h0:0<=k) (h9:k < 9) (c j:Int):nxL (rest (tau0.set 2 (some (.int (1 + k)))) [.lst [.int c,.int j]])=some (.lst [.int c,.int j]):=by
 have:k=0\/k=1\/k=2\/k=3\/k=4\/k=5\/k=6\/k=7\/k=8:=by omega
 rcases this with rfl | rfl | rfl | rfl | rfl | rfl | rfl | rfl | rfl
 ·exact r_0 c j
 ·exact r_1 c j
 ·exact r_2 c j
 ·exact r_3 c j
 ·exact r_4 c j
 ·exact r_5 c j
 ·exact r_6 c j
 ·exact r_7 c j
 ·exact r_8 c j
theorem turn_at (c j:Int):∃ τ1 h1 c' j',g_turn tau0 [.lst [.int c,.int j]]=.next τ1 h1/\h1[0]?=some (.lst [.int c',.int j'])/\τ1.length=6:=by
 obtain ⟨k,c1,j1,k0,k9,e⟩:=roll_at (τ:=tau0) (h:=[.lst [.int c,.int j]]) (m:=9) rfl rfl ⟨by decide,by decide⟩
 have em:g0 (rollE 9) tau0 [.lst [.int c,.int j]]=.next (tau0.set 2 (some (.int (1 + k)))) [.lst [.int c1,.int j1]]:=by
  rw [g0_at (rollE 9),e,<- g0_at (fix k c1 j1)]
  exact g0_next k c j c1 j1
 obtain ⟨τ1,h1,e6,e7,e8⟩:=nxL_is (r_all k0 k9 c1 j1)
 refine ⟨τ1,h1,c1,j1,?_,e7,e8⟩
 rw [turn_is]
 exact (seq_ok em).trans e6
theorem law_true (ns:List Int) (hl:ns.length<=63):∃ vh',F_law [.ref 0] [.scr ns]=.ok (.bl true) vh' :=
 law_of (fun c j=>let ⟨τ1,h1,c',j',e,q,_⟩:=turn_at c j;⟨τ1,h1,c',j',e,q⟩) (fun c j τ1 h1 e=>by
  obtain ⟨τ2,h2,c',j',e2,_,q⟩:=turn_at c j
  rw [e] at e2;cases e2;exact q) ns hl
end
end K61
open PySem PySem.W PyProof.Rows
local macro_rules
  | `(tactic| o_head $H) => `(tactic| (
    refine holds_open (q := K61.vw) (loose := ["Roof", "FORMS"]) (Xt := (fun s => xlAt K61.vw [] s && recOk (RowW.records PySem.Challenge.rw_joinedfolk_k61_refusals_apart.row.toRowW) s)) (XP := XL K61.vw []) (Yf := Hook.obs $H) (Ya := Hook.val $H) (YP := Hook.says $H) (N := 20000) ?_ (Hook.of $H) (Hook.keeps $H) (fun s e => xl_of s (Bool.and_eq_true_iff.mp e).1) XL.keeps (by rfl) (by rfl) (by rfl) (fun s e => recFacts_of (Bool.and_eq_true_iff.mp e).2) (by rfl) (by first | assumption | decide +kernel) (by decide +kernel) ⟨rfl, rfl, rfl, rfl, rfl, by decide +kernel⟩ ?_ ?_
    · exact K61.lo))
set_option maxRecDepth 1000000 in
set_option maxHeartbeats 0 in
theorem PySem.Challenge.cw_joinedfolk_k61_refusals_apart_holds : PySem.Challenge.rw_joinedfolk_k61_refusals_apart.Holds := by
  w_on; o_law; o_head (kmHook K61.front.heap_39 K61.A (fun _ => by kernel_rfl) [653, 672])
  · w_witness2
  k_fill
  refine FS.walk_F (l := PySem.Challenge.rw_joinedfolk_k61_refusals_apart) (n := 63) (k := 8) (x := "_law_script") (tb := K61.tb) (tabs := K61.tabs) (F := K61.F_law) rfl (by decide) rfl ⟨rfl, by decide, by decide, rfl⟩ (fun w h Y => PySem.W.km_in_of Y) (fun w h Y => PySem.W.km_tabs_of Y) ?hcode ?hlk ?hnl ?htb ?Fn K61.law_true
  case hcode =>
    intro Q hQ
    simp only [K61.tabs, List.mem_cons, List.not_mem_nil, or_false] at hQ
    rcases hQ with rfl | rfl
    · exact ⟨657, fun p => by kernel_rfl⟩
    · exact ⟨674, fun p => by kernel_rfl⟩
  case hlk =>
    intro p Q hQ
    simp only [K61.tabs, List.mem_cons, List.not_mem_nil, or_false] at hQ
    rcases hQ with rfl | rfl
    · kernel_rfl
    · kernel_rfl
  case hnl => exact fun p => by kernel_rfl
  case htb => exact K61.tb_tabs
  case Fn =>
    intro w mg fa h KX G hmg
    refine' K61.txt_mk KX G hmg ?n_RoofError ?n_BadName ?n_NoHouse ?n_NoOne ?n_Taken ?n_BadRule ?n_BadTime ?n_BadJournal ?n_Nothing ?n_KINDS ?n_FORMS ?n_SIGNS ?n_MOST_SIGNS ?n_RANGE_SIZE ?n_FIRST_RANGE ?n_LET ?n_BAR ?n_FIGURES ?n_NONE ?z_isinstance ?z_len ?z_all ?z_sum ?z_max ?z_min ?z_list ?z_int ?z_range ?z_str ?z_tuple ?z_bool ?z_ValueError ?z_enumerate ?z_zip ?ex_BadName ?ex_NoHouse ?ex_BadRule ?ex_BadTime ?ex_Nothing ?tabs1 ?sts ?cts ?xts ?xth ?xc_BadName ?xc_NoHouse ?xc_BadRule ?xc_BadTime ?xc_Nothing ?xc_NoOne ?xc_Taken ?xc_BadJournal ?cl_Ledger ?cl_Roof ?gts ?dF ?hds ?xi0 ?xi1 ?xi2 ?a3 ?l3 ?a4 ?l4 ?a5 ?l5 ?a6 ?l6 ?a7 ?l7 ?a8 ?l8 ?a9 ?l9 ?a10 ?l10 ?m11 ?l11 ?a11 ?mk11 ?kc11 ?m12 ?l12 ?m13 ?l13 ?m14 ?l14 ?a14 ?mk14 ?kc14 ?m15 ?l15 ?m16 ?l16 ?m17 ?l17 ?m18 ?l18 ?m19 ?l19 ?m20 ?l20 ?m21 ?l21 ?m22 ?l22 ?m23 ?l23 ?m24 ?l24 ?m25 ?l25 ?m26 ?l26 ?m27 ?l27 ?m28 ?l28 ?m29 ?l29 ?m30 ?l30 ?m31 ?l31 ?m32 ?l32 ?a33 ?l33 ?a34 ?l34 ?a35 ?l35 ?a36 ?l36 ?a37 ?l37 ?a38 ?l38 ?a39 ?l39 ?a40 ?l40 ?a41 ?l41 ?a42 ?l42 ?a43 ?l43 ?a44 ?l44 ?a45 ?l45 ?a46 ?l46 ?a47 ?l47 ?a48 ?l48 ?a49 ?l49
    (case n_RoofError => kernel_rfl)
    (case n_BadName => kernel_rfl)
    (case n_NoHouse => kernel_rfl)
    (case n_NoOne => kernel_rfl)
    (case n_Taken => kernel_rfl)
    (case n_BadRule => kernel_rfl)
    (case n_BadTime => kernel_rfl)
    (case n_BadJournal => kernel_rfl)
    (case n_Nothing => kernel_rfl)
    (case n_KINDS => kernel_rfl)
    (case n_FORMS => kernel_rfl)
    (case n_SIGNS => k_is)
    (case n_MOST_SIGNS => k_is)
    (case n_RANGE_SIZE => k_is)
    (case n_FIRST_RANGE => k_is)
    (case n_LET => k_is)
    (case n_BAR => k_is)
    (case n_FIGURES => k_is)
    (case n_NONE => k_is)
    (case z_isinstance => kernel_rfl)
    (case z_len => kernel_rfl)
    (case z_all => kernel_rfl)
    (case z_sum => kernel_rfl)
    (case z_max => kernel_rfl)
    (case z_min => kernel_rfl)
    (case z_list => kernel_rfl)
    (case z_int => kernel_rfl)
    (case z_range => kernel_rfl)
    (case z_str => kernel_rfl)
    (case z_tuple => kernel_rfl)
    (case z_bool => kernel_rfl)
    (case z_ValueError => kernel_rfl)
    (case z_enumerate => kernel_rfl)
    (case z_zip => kernel_rfl)
    (case ex_BadName => k_exc)
    (case ex_NoHouse => k_exc)
    (case ex_BadRule => k_exc)
    (case ex_BadTime => k_exc)
    (case ex_Nothing => k_exc)
    (case tabs1 => kernel_rfl)
    (case sts => kernel_rfl)
    (case cts => kernel_rfl)
    (case xts => kernel_rfl)
    (case xth => kernel_rfl)
    (case xc_BadName => exact ⟨by kernel_rfl, by kernel_rfl, by kernel_rfl, by kernel_rfl, by kernel_rfl, by kernel_rfl, by kernel_rfl, by kernel_rfl⟩)
    (case xc_NoHouse => exact ⟨by kernel_rfl, by kernel_rfl, by kernel_rfl, by kernel_rfl, by kernel_rfl, by kernel_rfl, by kernel_rfl, by kernel_rfl⟩)
    (case xc_BadRule => exact ⟨by kernel_rfl, by kernel_rfl, by kernel_rfl, by kernel_rfl, by kernel_rfl, by kernel_rfl, by kernel_rfl, by kernel_rfl⟩)
    (case xc_BadTime => exact ⟨by kernel_rfl, by kernel_rfl, by kernel_rfl, by kernel_rfl, by kernel_rfl, by kernel_rfl, by kernel_rfl, by kernel_rfl⟩)
    (case xc_Nothing => exact ⟨by kernel_rfl, by kernel_rfl, by kernel_rfl, by kernel_rfl, by kernel_rfl, by kernel_rfl, by kernel_rfl, by kernel_rfl⟩)
    (case xc_NoOne => exact ⟨by kernel_rfl, by kernel_rfl, by kernel_rfl, by kernel_rfl, by kernel_rfl, by kernel_rfl, by kernel_rfl, by kernel_rfl⟩)
    (case xc_Taken => exact ⟨by kernel_rfl, by kernel_rfl, by kernel_rfl, by kernel_rfl, by kernel_rfl, by kernel_rfl, by kernel_rfl, by kernel_rfl⟩)
    (case xc_BadJournal => exact ⟨by kernel_rfl, by kernel_rfl, by kernel_rfl, by kernel_rfl, by kernel_rfl, by kernel_rfl, by kernel_rfl, by kernel_rfl⟩)
    (case cl_Ledger => exact ⟨by kernel_rfl, by kernel_rfl, by kernel_rfl, by kernel_rfl⟩)
    (case cl_Roof => exact ⟨by kernel_rfl, by kernel_rfl, by kernel_rfl, by kernel_rfl⟩)
    (case gts => kernel_rfl)
    (case dF => kernel_rfl)
    (case hds => kernel_rfl)
    (case xi0 => exact K61.xi_NoOne (K61.lf (by kernel_rfl) (by kernel_rfl)) (by kernel_rfl) (by kernel_rfl) (by kernel_rfl) (by kernel_rfl) (by kernel_rfl))
    (case xi1 => exact K61.xi_Taken (K61.lf (by kernel_rfl) (by kernel_rfl)) (by kernel_rfl) (by kernel_rfl) (by kernel_rfl) (by kernel_rfl) (by kernel_rfl))
    (case xi2 => exact K61.xi_BadJournal (K61.lf (by kernel_rfl) (by kernel_rfl)) (by kernel_rfl) (by kernel_rfl) (by kernel_rfl) (by kernel_rfl) (by kernel_rfl))
    (case a3 => kernel_rfl)
    (case l3 => exact K61.lf (by kernel_rfl) (by kernel_rfl))
    (case a4 => kernel_rfl)
    (case l4 => exact K61.lf (by kernel_rfl) (by kernel_rfl))
    (case a5 => kernel_rfl)
    (case l5 => exact K61.lf (by kernel_rfl) (by kernel_rfl))
    (case a6 => kernel_rfl)
    (case l6 => exact K61.lf (by kernel_rfl) (by kernel_rfl))
    (case a7 => kernel_rfl)
    (case l7 => exact K61.lf (by kernel_rfl) (by kernel_rfl))
    (case a8 => kernel_rfl)
    (case l8 => exact K61.lf (by kernel_rfl) (by kernel_rfl))
    (case a9 => kernel_rfl)
    (case l9 => exact K61.lf (by kernel_rfl) (by kernel_rfl))
    (case a10 => kernel_rfl)
    (case l10 => exact K61.lf (by kernel_rfl) (by kernel_rfl))
    (case m11 => exact ⟨by kernel_rfl, by kernel_rfl⟩)
    (case l11 => exact K61.lf (by kernel_rfl) (by kernel_rfl))
    (case a11 => kernel_rfl)
    (case mk11 => kernel_rfl)
    (case kc11 => kernel_rfl)
    (case m12 => exact ⟨by kernel_rfl, by kernel_rfl⟩)
    (case l12 => exact K61.lf (by kernel_rfl) (by kernel_rfl))
    (case m13 => exact ⟨by kernel_rfl, by kernel_rfl⟩)
    (case l13 => exact K61.lf (by kernel_rfl) (by kernel_rfl))
    (case m14 => exact ⟨by kernel_rfl, by kernel_rfl⟩)
    (case l14 => exact K61.lf (by kernel_rfl) (by kernel_rfl))
    (case a14 => kernel_rfl)
    (case mk14 => kernel_rfl)
    (case kc14 => kernel_rfl)
    (case m15 => exact ⟨by kernel_rfl, by kernel_rfl⟩)
    (case l15 => exact K61.lf (by kernel_rfl) (by kernel_rfl))
    (case m16 => exact ⟨by kernel_rfl, by kernel_rfl⟩)
    (case l16 => exact K61.lf (by kernel_rfl) (by kernel_rfl))
    (case m17 => exact ⟨by kernel_rfl, by kernel_rfl⟩)
    (case l17 => exact K61.lf (by kernel_rfl) (by kernel_rfl))
    (case m18 => exact ⟨by kernel_rfl, by kernel_rfl⟩)
    (case l18 => exact K61.lf (by kernel_rfl) (by kernel_rfl))
    (case m19 => exact ⟨by kernel_rfl, by kernel_rfl⟩)
    (case l19 => exact K61.lf (by kernel_rfl) (by kernel_rfl))
    (case m20 => exact ⟨by kernel_rfl, by kernel_rfl⟩)
    (case l20 => exact K61.lf (by kernel_rfl) (by kernel_rfl))
    (case m21 => exact ⟨by kernel_rfl, by kernel_rfl⟩)
    (case l21 => exact K61.lf (by kernel_rfl) (by kernel_rfl))
    (case m22 => exact ⟨by kernel_rfl, by kernel_rfl⟩)
    (case l22 => exact K61.lf (by kernel_rfl) (by kernel_rfl))
    (case m23 => exact ⟨by kernel_rfl, by kernel_rfl⟩)
    (case l23 => exact K61.lf (by kernel_rfl) (by kernel_rfl))
    (case m24 => exact ⟨by kernel_rfl, by kernel_rfl⟩)
    (case l24 => exact K61.lf (by kernel_rfl) (by kernel_rfl))
    (case m25 => exact ⟨by kernel_rfl, by kernel_rfl⟩)
    (case l25 => exact K61.lf (by kernel_rfl) (by kernel_rfl))
    (case m26 => exact ⟨by kernel_rfl, by kernel_rfl⟩)
    (case l26 => intro cl mf; exact K61.dd_Roof_move (K61.lf (by kernel_rfl) (by kernel_rfl)) cl mf (by intros; kernel_rfl))
    (case m27 => exact ⟨by kernel_rfl, by kernel_rfl⟩)
    (case l27 => exact K61.lf (by kernel_rfl) (by kernel_rfl))
    (case m28 => exact ⟨by kernel_rfl, by kernel_rfl⟩)
    (case l28 => exact K61.lf (by kernel_rfl) (by kernel_rfl))
    (case m29 => exact ⟨by kernel_rfl, by kernel_rfl⟩)
    (case l29 => exact K61.lf (by kernel_rfl) (by kernel_rfl))
    (case m30 => exact ⟨by kernel_rfl, by kernel_rfl⟩)
    (case l30 => exact K61.lf (by kernel_rfl) (by kernel_rfl))
    (case m31 => exact ⟨by kernel_rfl, by kernel_rfl⟩)
    (case l31 => exact K61.lf (by kernel_rfl) (by kernel_rfl))
    (case m32 => exact ⟨by kernel_rfl, by kernel_rfl⟩)
    (case l32 => exact K61.lf (by kernel_rfl) (by kernel_rfl))
    (case a33 => kernel_rfl)
    (case l33 => exact K61.lf (by kernel_rfl) (by kernel_rfl))
    (case a34 => kernel_rfl)
    (case l34 => exact K61.lf (by kernel_rfl) (by kernel_rfl))
    (case a35 => kernel_rfl)
    (case l35 => exact K61.lf (by kernel_rfl) (by kernel_rfl))
    (case a36 => kernel_rfl)
    (case l36 => exact K61.lf (by kernel_rfl) (by kernel_rfl))
    (case a37 => kernel_rfl)
    (case l37 => exact K61.lf (by kernel_rfl) (by kernel_rfl))
    (case a38 => kernel_rfl)
    (case l38 => exact K61.lf (by kernel_rfl) (by kernel_rfl))
    (case a39 => kernel_rfl)
    (case l39 => exact K61.lf (by kernel_rfl) (by kernel_rfl))
    (case a40 => kernel_rfl)
    (case l40 => exact K61.lf (by kernel_rfl) (by kernel_rfl))
    (case a41 => kernel_rfl)
    (case l41 => exact K61.lf (by kernel_rfl) (by kernel_rfl))
    (case a42 => kernel_rfl)
    (case l42 => exact K61.lf (by kernel_rfl) (by kernel_rfl))
    (case a43 => kernel_rfl)
    (case l43 => exact K61.lf (by kernel_rfl) (by kernel_rfl))
    (case a44 => kernel_rfl)
    (case l44 => exact K61.lf (by kernel_rfl) (by kernel_rfl))
    (case a45 => kernel_rfl)
    (case l45 => exact K61.lc (by kernel_rfl) (by kernel_rfl) (by kernel_rfl))
    (case a46 => kernel_rfl)
    (case l46 => exact K61.lf (by kernel_rfl) (by kernel_rfl))
    (case a47 => kernel_rfl)
    (case l47 => exact K61.lf (by kernel_rfl) (by kernel_rfl))
    (case a48 => kernel_rfl)
    (case l48 => exact K61.lf (by kernel_rfl) (by kernel_rfl))
    (case a49 => kernel_rfl)
    (case l49 => exact K61.lc (by kernel_rfl) (by kernel_rfl) (by kernel_rfl))
