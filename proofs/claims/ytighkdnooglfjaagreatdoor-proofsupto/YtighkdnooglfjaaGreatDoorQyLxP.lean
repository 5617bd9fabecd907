import Derived.Test.YtighkdnooglfjaaGreatDoorQyPXd
open Go renaming Calls->aB,Value->aG,World->aA
open Go.Ending renaming returned->aC
open Go.IntKind renaming i64->I
open Go.RowKit renaming Hid->J
open Go.Value renaming bool->aL,int->O
namespace Go.Proofs.YtighkdnooglfjaaGreatDoor
open Go.RowKit

set_option maxRecDepth 100000 in
theorem Jmv(E:Nat->Addr){base:Nat}{w:aA}(hF:Xt E base w)(jG:base=w.heap.size)(c:Int)(hc: -9223372036854775808<=c/\c<9223372036854775808)(v1 v2:aG)(os:List (Nat×Nat))(hO:Jr base w v1 os)(t7:∀o∈os,Jy o)(uL:os.length<1000000)(kM:List OpL)(hS:Je7 base w v2 kM)(hl:kM.length<=800000)(hA:Ast w)(hL:Alk w):
  aB Tryz.prog 5 #[O I c,v1,v2] w λe w'=>e=aC (aL true)/\M (λj=>base<=j) w w':=by
 have HP:J (aB _ _ _ _ _):=JjQ E hF jG c hc v1 v2 os hO t7 uL kM hS hl hA hL 11 (by omega);obtain⟨oa,oc,qM⟩:=hO.shape;obtain⟨sa,sc,kn⟩:=hS.shape;subst qM;subst kn;go_enter Tryz.func5,Tryz.ntmps5;go_wp2_with fail;refine HP.o.mono ?_;rintro _ w1⟨rfl,ht⟩;have HT:J _:=ht;go_wp2;go_ret;exact⟨rfl,HT⟩
