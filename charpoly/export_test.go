package charpoly

// Common is for the tests outside.
var Common = common
