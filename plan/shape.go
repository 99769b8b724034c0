package plan

import "annex/api"

const (
	leastJournal = 27 // the head, and the greatest transaction with its descriptor and its commit
	mostJournal  = 512
)

// How many numbers a shape has.
const numbersLen = 8

type pair struct{ least, most int }

// bounds has the numbers in their order in a superblock.
var bounds = [numbersLen]pair{
	{1, api.MaxClients},
	{1, api.MaxWindow},
	{1, api.MaxPlaces},
	{1, api.MaxCache},
	{2, api.MaxInodes},
	{0, api.MaxQuota},
	{1, api.MaxBlocks},
	{leastJournal, mostJournal},
}

func numbers(s api.Shape) [numbersLen]int {
	return [numbersLen]int{s.Clients, s.Window, s.Places, s.Cache, s.Inodes, s.Quota, s.Data, s.Journal}
}

func shapeOf(n [numbersLen]int) api.Shape {
	return api.Shape{Clients: n[0], Window: n[1], Places: n[2], Cache: n[3], Inodes: n[4], Quota: n[5], Data: n[6], Journal: n[7]}
}

func inBounds(s api.Shape) bool {
	n := numbers(s)
	for i, p := range bounds {
		if n[i] < p.least || n[i] > p.most {
			return false
		}
	}
	return true
}
